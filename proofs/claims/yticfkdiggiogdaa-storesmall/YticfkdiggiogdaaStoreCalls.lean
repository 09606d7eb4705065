/-
  The functions of package store but Open.
-/
import Derived.Test.YticfkdiggiogdaaStoreParts
namespace Go.Proofs.Yticfkdiggiogdaa.Store
set_option linter.unusedVariables false
set_option linter.unusedSimpArgs false
open Go Go.RowKit Go.Shelf Go.Proofs
open Go.Proofs.Yticfkdiggiogdaa.Disk (Row getD_in ret_int add_add DiskIs Kept St now setSt owns_row owns_same)
open Go.Proofs.Yticfkdiggiogdaa.Wal (start_held take_held call_held read_held done_held Owns Fr Live Free LogIs cell_block rec setSt_at setSt_two appSt now_app)
open Go.Proofs.Yticfkdiggiogdaa.Codec (num I64 Made Mine)

set_option maxHeartbeats 1000000 in
theorem last_any {W w : World} {own : Owns} {D S : Nat} {L : Nat → Nat} {σ : St} {m c : Nat} {g f n : Int} (h : StoreIs W w own D S L σ m c g f n) : Calls Try.prog 30 #[.pointer (Option.some ⟨S, 0, none⟩)] w fun e w' => e = .returned (.int .i64 n) ∧ w' = w := by
  have h5 := h.cell 5
  simp only [cellsOf, List.getElem?_toArray, List.getElem?_cons_zero, List.getElem?_cons_succ] at h5
  go_enter Try.func30, Try.ntmps30
  go_wp2
  go_ret
  exact ⟨rfl, rfl⟩
set_option maxHeartbeats 1000000 in
theorem from_any {W w : World} {own : Owns} {D S : Nat} {L : Nat → Nat} {σ : St} {m c : Nat} {g f n : Int} (h : StoreIs W w own D S L σ m c g f n) : Calls Try.prog 34 #[.pointer (Option.some ⟨S, 0, none⟩)] w fun e w' => e = .returned (.int .i64 f) ∧ w' = w := by
  have h5 := h.cell 4
  simp only [cellsOf, List.getElem?_toArray, List.getElem?_cons_zero, List.getElem?_cons_succ] at h5
  go_enter Try.func34, Try.ntmps34
  go_wp2
  go_ret
  exact ⟨rfl, rfl⟩

set_option maxRecDepth 100000 in
set_option maxHeartbeats 2000000 in
theorem size_any {W w : World} {own : Owns} {D S : Nat} {L : Nat → Nat} {σ : St} {m c : Nat} {g f n : Int} (h : StoreIs W w own D S L σ m c g f n) (hm : m < 4194304) : Calls Try.prog 31 #[.pointer (Option.some ⟨S, 0, none⟩)] w fun e w' => e = .returned (.int .i64 (now σ c).length) ∧ Below w.heap.size w w' := by
  obtain ⟨IH, hIH⟩ : ∃ I : World → Prop, I = fun u => u.heap[S]? = Option.some (.cells (cellsOf L c g f n) 97 (0, 0)) := ⟨_, rfl⟩
  have k0 : ∀ u, IH u → u.cell? ⟨S, 0, none⟩ = Option.some (.pointer (Option.some ⟨L 0, 0, none⟩)) := fun u hu => by rw [hIH] at hu; exact cell_of_row u _ 0 _ _ _ hu
  have k1 : ∀ u, IH u → u.cell? ⟨S, 1, none⟩ = Option.some (.pointer (Option.some ⟨L 1, 0, none⟩)) := fun u hu => by rw [hIH] at hu; exact cell_of_row u _ 1 _ _ _ hu
  have k2 : ∀ u, IH u → u.cell? ⟨S, 2, none⟩ = Option.some (.int .i64 c) := fun u hu => by rw [hIH] at hu; exact cell_of_row u _ 2 _ _ _ hu
  have k3 : ∀ u, IH u → u.cell? ⟨S, 3, none⟩ = Option.some (.int .i64 g) := fun u hu => by rw [hIH] at hu; exact cell_of_row u _ 3 _ _ _ hu
  have k5 : ∀ u, IH u → u.cell? ⟨S, 5, none⟩ = Option.some (.int .i64 n) := fun u hu => by rw [hIH] at hu; exact cell_of_row u _ 5 _ _ _ hu
  have kH : ∀ u u', IH u → S < u.heap.size → Below u.heap.size u u' → IH u' := fun u u' hu hs hb => by rw [hIH] at hu ⊢; exact (hb.block _ hs).trans hu
  have kF : ∀ u u' o o', IH u → S < u.heap.size → o S = none → Fr o o' u u' → IH u' := fun u u' o o' hu hs hn hb => by rw [hIH] at hu ⊢; exact (hb.kept.block _ hs hn).trans hu
  have hlt := h.free.1
  have hno := h.free.2
  have hc := h.two
  have hS : IH w.drew := by rw [hIH]; exact h.row
  have s0 := h.drew
  rcases (show c = 0 ∨ c = 1 by omega) with rfl | rfl
  · have cZ := Wal.size_any s0.live hm (s0.log 0 (by decide)) (by decide)
    go_enter Try.func31, Try.ntmps31
    go_wp2
    refine start_held (S := IH) 11 rfl (by kernel_rfl) (hS) ?_
    simp only [Array.replicate_succ, Array.replicate_zero, List.push_toArray, List.nil_append, List.cons_append]
    refine take_held 0 (by assumption) rfl (by kernel_rfl) (by kernel_rfl) (by kernel_rfl) (fun _ _ _ h => h) (by kernel_rfl) (v := ?v0) ?y0 ?r0
    case y0 => (intro u hu; go_simp; try rfl)
    simp only [Act.put, List.setIfInBounds_toArray, List.set_cons_zero, List.set_cons_succ]
    refine take_held 1 (by assumption) rfl (by kernel_rfl) (by kernel_rfl) (by kernel_rfl) (fun _ _ _ h => h) (by kernel_rfl) (v := ?v1) ?y1 ?r1
    case y1 => (intro u hu; go_simp; try rfl)
    simp only [Act.put, List.setIfInBounds_toArray, List.set_cons_zero, List.set_cons_succ]
    refine take_held 2 (by assumption) rfl (by kernel_rfl) (by kernel_rfl) (by kernel_rfl) (fun _ _ _ h => h) (by kernel_rfl) (v := ?v2) ?y2 ?r2
    case y2 => (intro u hu; go_simp; try rfl)
    simp only [Act.put, List.setIfInBounds_toArray, List.set_cons_zero, List.set_cons_succ]
    refine take_held 3 (by assumption) rfl (by kernel_rfl) (by kernel_rfl) (by kernel_rfl) (fun _ _ _ h => h) (by kernel_rfl) (v := ?v3) ?y3 ?r3
    case y3 => (intro u hu; go_simp; try rfl)
    simp only [Act.put, List.setIfInBounds_toArray, List.set_cons_zero, List.set_cons_succ]
    refine take_held 4 (by assumption) rfl (by kernel_rfl) (by kernel_rfl) (by kernel_rfl) (fun _ _ _ h => h) (by kernel_rfl) (v := ?v4) ?y4 ?r4
    case y4 => (intro u hu; have := k2 u hu; go_simp; try rfl)
    simp only [Act.put, List.setIfInBounds_toArray, List.set_cons_zero, List.set_cons_succ]
    refine take_held 5 (by assumption) rfl (by kernel_rfl) (by kernel_rfl) (by kernel_rfl) (fun _ _ _ h => h) (by kernel_rfl) (v := ?v5) ?y5 ?r5
    case y5 => (intro u hu; go_simp; try rfl)
    simp only [Act.put, List.setIfInBounds_toArray, List.set_cons_zero, List.set_cons_succ]
    refine take_held 6 (by assumption) rfl (by kernel_rfl) (by kernel_rfl) (by kernel_rfl) (fun _ _ _ h => h) (by kernel_rfl) (v := ?v6) ?y6 ?r6
    case y6 => (intro u hu; go_simp; try rfl)
    simp only [Act.put, List.setIfInBounds_toArray, List.set_cons_zero, List.set_cons_succ]
    refine take_held 7 (by assumption) rfl (by kernel_rfl) (by kernel_rfl) (by kernel_rfl) (fun _ _ _ h => h) (by kernel_rfl) (v := ?v7) ?y7 ?r7
    case y7 => (intro u hu; go_simp; try rfl)
    simp only [Act.put, List.setIfInBounds_toArray, List.set_cons_zero, List.set_cons_succ]
    refine take_held 8 (by assumption) rfl (by kernel_rfl) (by kernel_rfl) (by kernel_rfl) (fun _ _ _ h => h) (by kernel_rfl) (v := ?v8) ?y8 ?r8
    case y8 => (intro u hu; have := k0 u hu; go_simp; try rfl)
    simp only [Act.put, List.setIfInBounds_toArray, List.set_cons_zero, List.set_cons_succ]
    refine call_held 9 rfl (by kernel_rfl) (by kernel_rfl) 57 #[.pointer (Option.some ⟨L 0, 0, none⟩)] (by go_simp) _ (Wal.call_val cZ) ?_
    rintro v w1 ⟨rfl, b1⟩
    have hS1 : IH w1 := kH w.drew w1 hS hlt b1
    refine ⟨hS1, ?_⟩
    simp only [Act.put, List.setIfInBounds_toArray, List.set_cons_zero, List.set_cons_succ]
    refine take_held 10 (by assumption) rfl (by kernel_rfl) (by kernel_rfl) (by kernel_rfl) (fun _ _ _ h => h) (by kernel_rfl) (v := ?v9) ?y9 ?r9
    case y9 => (intro u hu; go_simp; try rfl)
    simp only [Act.put, List.setIfInBounds_toArray, List.set_cons_zero, List.set_cons_succ]
    refine done_held (by kernel_rfl) ?_ _
    go_wp2
    go_ret
    exact ⟨rfl, (Below.refl _ _).drew.trans b1⟩
  · have cZ := Wal.size_any s0.live hm (s0.log 1 (by decide)) (by decide)
    go_enter Try.func31, Try.ntmps31
    go_wp2
    refine start_held (S := IH) 11 rfl (by kernel_rfl) (hS) ?_
    simp only [Array.replicate_succ, Array.replicate_zero, List.push_toArray, List.nil_append, List.cons_append]
    refine take_held 0 (by assumption) rfl (by kernel_rfl) (by kernel_rfl) (by kernel_rfl) (fun _ _ _ h => h) (by kernel_rfl) (v := ?v10) ?y10 ?r10
    case y10 => (intro u hu; go_simp; try rfl)
    simp only [Act.put, List.setIfInBounds_toArray, List.set_cons_zero, List.set_cons_succ]
    refine take_held 1 (by assumption) rfl (by kernel_rfl) (by kernel_rfl) (by kernel_rfl) (fun _ _ _ h => h) (by kernel_rfl) (v := ?v11) ?y11 ?r11
    case y11 => (intro u hu; go_simp; try rfl)
    simp only [Act.put, List.setIfInBounds_toArray, List.set_cons_zero, List.set_cons_succ]
    refine take_held 2 (by assumption) rfl (by kernel_rfl) (by kernel_rfl) (by kernel_rfl) (fun _ _ _ h => h) (by kernel_rfl) (v := ?v12) ?y12 ?r12
    case y12 => (intro u hu; go_simp; try rfl)
    simp only [Act.put, List.setIfInBounds_toArray, List.set_cons_zero, List.set_cons_succ]
    refine take_held 3 (by assumption) rfl (by kernel_rfl) (by kernel_rfl) (by kernel_rfl) (fun _ _ _ h => h) (by kernel_rfl) (v := ?v13) ?y13 ?r13
    case y13 => (intro u hu; go_simp; try rfl)
    simp only [Act.put, List.setIfInBounds_toArray, List.set_cons_zero, List.set_cons_succ]
    refine take_held 4 (by assumption) rfl (by kernel_rfl) (by kernel_rfl) (by kernel_rfl) (fun _ _ _ h => h) (by kernel_rfl) (v := ?v14) ?y14 ?r14
    case y14 => (intro u hu; have := k2 u hu; go_simp; try rfl)
    simp only [Act.put, List.setIfInBounds_toArray, List.set_cons_zero, List.set_cons_succ]
    refine take_held 5 (by assumption) rfl (by kernel_rfl) (by kernel_rfl) (by kernel_rfl) (fun _ _ _ h => h) (by kernel_rfl) (v := ?v15) ?y15 ?r15
    case y15 => (intro u hu; go_simp; try rfl)
    simp only [Act.put, List.setIfInBounds_toArray, List.set_cons_zero, List.set_cons_succ]
    refine take_held 6 (by assumption) rfl (by kernel_rfl) (by kernel_rfl) (by kernel_rfl) (fun _ _ _ h => h) (by kernel_rfl) (v := ?v16) ?y16 ?r16
    case y16 => (intro u hu; go_simp; try rfl)
    simp only [Act.put, List.setIfInBounds_toArray, List.set_cons_zero, List.set_cons_succ]
    refine take_held 7 (by assumption) rfl (by kernel_rfl) (by kernel_rfl) (by kernel_rfl) (fun _ _ _ h => h) (by kernel_rfl) (v := ?v17) ?y17 ?r17
    case y17 => (intro u hu; go_simp; try rfl)
    simp only [Act.put, List.setIfInBounds_toArray, List.set_cons_zero, List.set_cons_succ]
    refine take_held 8 (by assumption) rfl (by kernel_rfl) (by kernel_rfl) (by kernel_rfl) (fun _ _ _ h => h) (by kernel_rfl) (v := ?v18) ?y18 ?r18
    case y18 => (intro u hu; have := k1 u hu; go_simp; try rfl)
    simp only [Act.put, List.setIfInBounds_toArray, List.set_cons_zero, List.set_cons_succ]
    refine call_held 9 rfl (by kernel_rfl) (by kernel_rfl) 57 #[.pointer (Option.some ⟨L 1, 0, none⟩)] (by go_simp) _ (Wal.call_val cZ) ?_
    rintro v w1 ⟨rfl, b1⟩
    have hS1 : IH w1 := kH w.drew w1 hS hlt b1
    refine ⟨hS1, ?_⟩
    simp only [Act.put, List.setIfInBounds_toArray, List.set_cons_zero, List.set_cons_succ]
    refine take_held 10 (by assumption) rfl (by kernel_rfl) (by kernel_rfl) (by kernel_rfl) (fun _ _ _ h => h) (by kernel_rfl) (v := ?v19) ?y19 ?r19
    case y19 => (intro u hu; go_simp; try rfl)
    simp only [Act.put, List.setIfInBounds_toArray, List.set_cons_zero, List.set_cons_succ]
    refine done_held (by kernel_rfl) ?_ _
    go_wp2
    go_ret
    exact ⟨rfl, (Below.refl _ _).drew.trans b1⟩

set_option maxRecDepth 100000 in
set_option maxHeartbeats 2000000 in
theorem sync_any {W w : World} {own : Owns} {D S : Nat} {L : Nat → Nat} {σ : St} {m c : Nat} {g f n : Int} (h : StoreIs W w own D S L σ m c g f n) (hm : m < 4194304) : Calls Try.prog 24 #[.pointer (Option.some ⟨S, 0, none⟩)] w fun e w' => e = .returned (.int .i64 0) ∧ ∃ own', StoreIs W w' own' D S L (setSt σ c (now σ c, [])) (m + 1) c g f n ∧ SFr S own own' w w' := by
  obtain ⟨IH, hIH⟩ : ∃ I : World → Prop, I = fun u => u.heap[S]? = Option.some (.cells (cellsOf L c g f n) 97 (0, 0)) := ⟨_, rfl⟩
  have k0 : ∀ u, IH u → u.cell? ⟨S, 0, none⟩ = Option.some (.pointer (Option.some ⟨L 0, 0, none⟩)) := fun u hu => by rw [hIH] at hu; exact cell_of_row u _ 0 _ _ _ hu
  have k1 : ∀ u, IH u → u.cell? ⟨S, 1, none⟩ = Option.some (.pointer (Option.some ⟨L 1, 0, none⟩)) := fun u hu => by rw [hIH] at hu; exact cell_of_row u _ 1 _ _ _ hu
  have k2 : ∀ u, IH u → u.cell? ⟨S, 2, none⟩ = Option.some (.int .i64 c) := fun u hu => by rw [hIH] at hu; exact cell_of_row u _ 2 _ _ _ hu
  have k3 : ∀ u, IH u → u.cell? ⟨S, 3, none⟩ = Option.some (.int .i64 g) := fun u hu => by rw [hIH] at hu; exact cell_of_row u _ 3 _ _ _ hu
  have k5 : ∀ u, IH u → u.cell? ⟨S, 5, none⟩ = Option.some (.int .i64 n) := fun u hu => by rw [hIH] at hu; exact cell_of_row u _ 5 _ _ _ hu
  have kH : ∀ u u', IH u → S < u.heap.size → Below u.heap.size u u' → IH u' := fun u u' hu hs hb => by rw [hIH] at hu ⊢; exact (hb.block _ hs).trans hu
  have kF : ∀ u u' o o', IH u → S < u.heap.size → o S = none → Fr o o' u u' → IH u' := fun u u' o o' hu hs hn hb => by rw [hIH] at hu ⊢; exact (hb.kept.block _ hs hn).trans hu
  have hlt := h.free.1
  have hno := h.free.2
  have hc := h.two
  have hS : IH w.drew := by rw [hIH]; exact h.row
  have s0 := h.drew
  have F0 : SFr S own own w w.drew := SFr.below S (Below.refl _ _).drew
  rcases (show c = 0 ∨ c = 1 by omega) with rfl | rfl
  · have cZ := Wal.sync_any s0.live hm (s0.log 0 (by decide)) (by decide)
    go_enter Try.func24, Try.ntmps24
    go_wp2
    refine start_held (S := IH) 11 rfl (by kernel_rfl) (hS) ?_
    simp only [Array.replicate_succ, Array.replicate_zero, List.push_toArray, List.nil_append, List.cons_append]
    refine take_held 0 (by assumption) rfl (by kernel_rfl) (by kernel_rfl) (by kernel_rfl) (fun _ _ _ h => h) (by kernel_rfl) (v := ?v20) ?y20 ?r20
    case y20 => (intro u hu; go_simp; try rfl)
    simp only [Act.put, List.setIfInBounds_toArray, List.set_cons_zero, List.set_cons_succ]
    refine take_held 1 (by assumption) rfl (by kernel_rfl) (by kernel_rfl) (by kernel_rfl) (fun _ _ _ h => h) (by kernel_rfl) (v := ?v21) ?y21 ?r21
    case y21 => (intro u hu; go_simp; try rfl)
    simp only [Act.put, List.setIfInBounds_toArray, List.set_cons_zero, List.set_cons_succ]
    refine take_held 2 (by assumption) rfl (by kernel_rfl) (by kernel_rfl) (by kernel_rfl) (fun _ _ _ h => h) (by kernel_rfl) (v := ?v22) ?y22 ?r22
    case y22 => (intro u hu; go_simp; try rfl)
    simp only [Act.put, List.setIfInBounds_toArray, List.set_cons_zero, List.set_cons_succ]
    refine take_held 3 (by assumption) rfl (by kernel_rfl) (by kernel_rfl) (by kernel_rfl) (fun _ _ _ h => h) (by kernel_rfl) (v := ?v23) ?y23 ?r23
    case y23 => (intro u hu; go_simp; try rfl)
    simp only [Act.put, List.setIfInBounds_toArray, List.set_cons_zero, List.set_cons_succ]
    refine take_held 4 (by assumption) rfl (by kernel_rfl) (by kernel_rfl) (by kernel_rfl) (fun _ _ _ h => h) (by kernel_rfl) (v := ?v24) ?y24 ?r24
    case y24 => (intro u hu; have := k2 u hu; go_simp; try rfl)
    simp only [Act.put, List.setIfInBounds_toArray, List.set_cons_zero, List.set_cons_succ]
    refine take_held 5 (by assumption) rfl (by kernel_rfl) (by kernel_rfl) (by kernel_rfl) (fun _ _ _ h => h) (by kernel_rfl) (v := ?v25) ?y25 ?r25
    case y25 => (intro u hu; go_simp; try rfl)
    simp only [Act.put, List.setIfInBounds_toArray, List.set_cons_zero, List.set_cons_succ]
    refine take_held 6 (by assumption) rfl (by kernel_rfl) (by kernel_rfl) (by kernel_rfl) (fun _ _ _ h => h) (by kernel_rfl) (v := ?v26) ?y26 ?r26
    case y26 => (intro u hu; go_simp; try rfl)
    simp only [Act.put, List.setIfInBounds_toArray, List.set_cons_zero, List.set_cons_succ]
    refine take_held 7 (by assumption) rfl (by kernel_rfl) (by kernel_rfl) (by kernel_rfl) (fun _ _ _ h => h) (by kernel_rfl) (v := ?v27) ?y27 ?r27
    case y27 => (intro u hu; go_simp; try rfl)
    simp only [Act.put, List.setIfInBounds_toArray, List.set_cons_zero, List.set_cons_succ]
    refine take_held 8 (by assumption) rfl (by kernel_rfl) (by kernel_rfl) (by kernel_rfl) (fun _ _ _ h => h) (by kernel_rfl) (v := ?v28) ?y28 ?r28
    case y28 => (intro u hu; have := k0 u hu; go_simp; try rfl)
    simp only [Act.put, List.setIfInBounds_toArray, List.set_cons_zero, List.set_cons_succ]
    refine call_held 9 rfl (by kernel_rfl) (by kernel_rfl) 62 #[.pointer (Option.some ⟨L 0, 0, none⟩)] (by go_simp) _ (Wal.call_val cZ) ?_
    rintro v w1 ⟨rfl, own1, h1, f1⟩
    have hS1 : IH w1 := kF w.drew w1 own own1 hS hlt hno f1
    refine ⟨hS1, ?_⟩
    simp only [Act.put, List.setIfInBounds_toArray, List.set_cons_zero, List.set_cons_succ]
    refine take_held 10 (by assumption) rfl (by kernel_rfl) (by kernel_rfl) (by kernel_rfl) (fun _ _ _ h => h) (by kernel_rfl) (v := ?v29) ?y29 ?r29
    case y29 => (intro u hu; go_simp; try rfl)
    simp only [Act.put, List.setIfInBounds_toArray, List.set_cons_zero, List.set_cons_succ]
    refine done_held (by kernel_rfl) ?_ _
    go_wp2
    go_ret
    exact ⟨rfl, own1, s0.fr h1 f1, F0.trans (SFr.of S f1)⟩
  · have cZ := Wal.sync_any s0.live hm (s0.log 1 (by decide)) (by decide)
    go_enter Try.func24, Try.ntmps24
    go_wp2
    refine start_held (S := IH) 11 rfl (by kernel_rfl) (hS) ?_
    simp only [Array.replicate_succ, Array.replicate_zero, List.push_toArray, List.nil_append, List.cons_append]
    refine take_held 0 (by assumption) rfl (by kernel_rfl) (by kernel_rfl) (by kernel_rfl) (fun _ _ _ h => h) (by kernel_rfl) (v := ?v30) ?y30 ?r30
    case y30 => (intro u hu; go_simp; try rfl)
    simp only [Act.put, List.setIfInBounds_toArray, List.set_cons_zero, List.set_cons_succ]
    refine take_held 1 (by assumption) rfl (by kernel_rfl) (by kernel_rfl) (by kernel_rfl) (fun _ _ _ h => h) (by kernel_rfl) (v := ?v31) ?y31 ?r31
    case y31 => (intro u hu; go_simp; try rfl)
    simp only [Act.put, List.setIfInBounds_toArray, List.set_cons_zero, List.set_cons_succ]
    refine take_held 2 (by assumption) rfl (by kernel_rfl) (by kernel_rfl) (by kernel_rfl) (fun _ _ _ h => h) (by kernel_rfl) (v := ?v32) ?y32 ?r32
    case y32 => (intro u hu; go_simp; try rfl)
    simp only [Act.put, List.setIfInBounds_toArray, List.set_cons_zero, List.set_cons_succ]
    refine take_held 3 (by assumption) rfl (by kernel_rfl) (by kernel_rfl) (by kernel_rfl) (fun _ _ _ h => h) (by kernel_rfl) (v := ?v33) ?y33 ?r33
    case y33 => (intro u hu; go_simp; try rfl)
    simp only [Act.put, List.setIfInBounds_toArray, List.set_cons_zero, List.set_cons_succ]
    refine take_held 4 (by assumption) rfl (by kernel_rfl) (by kernel_rfl) (by kernel_rfl) (fun _ _ _ h => h) (by kernel_rfl) (v := ?v34) ?y34 ?r34
    case y34 => (intro u hu; have := k2 u hu; go_simp; try rfl)
    simp only [Act.put, List.setIfInBounds_toArray, List.set_cons_zero, List.set_cons_succ]
    refine take_held 5 (by assumption) rfl (by kernel_rfl) (by kernel_rfl) (by kernel_rfl) (fun _ _ _ h => h) (by kernel_rfl) (v := ?v35) ?y35 ?r35
    case y35 => (intro u hu; go_simp; try rfl)
    simp only [Act.put, List.setIfInBounds_toArray, List.set_cons_zero, List.set_cons_succ]
    refine take_held 6 (by assumption) rfl (by kernel_rfl) (by kernel_rfl) (by kernel_rfl) (fun _ _ _ h => h) (by kernel_rfl) (v := ?v36) ?y36 ?r36
    case y36 => (intro u hu; go_simp; try rfl)
    simp only [Act.put, List.setIfInBounds_toArray, List.set_cons_zero, List.set_cons_succ]
    refine take_held 7 (by assumption) rfl (by kernel_rfl) (by kernel_rfl) (by kernel_rfl) (fun _ _ _ h => h) (by kernel_rfl) (v := ?v37) ?y37 ?r37
    case y37 => (intro u hu; go_simp; try rfl)
    simp only [Act.put, List.setIfInBounds_toArray, List.set_cons_zero, List.set_cons_succ]
    refine take_held 8 (by assumption) rfl (by kernel_rfl) (by kernel_rfl) (by kernel_rfl) (fun _ _ _ h => h) (by kernel_rfl) (v := ?v38) ?y38 ?r38
    case y38 => (intro u hu; have := k1 u hu; go_simp; try rfl)
    simp only [Act.put, List.setIfInBounds_toArray, List.set_cons_zero, List.set_cons_succ]
    refine call_held 9 rfl (by kernel_rfl) (by kernel_rfl) 62 #[.pointer (Option.some ⟨L 1, 0, none⟩)] (by go_simp) _ (Wal.call_val cZ) ?_
    rintro v w1 ⟨rfl, own1, h1, f1⟩
    have hS1 : IH w1 := kF w.drew w1 own own1 hS hlt hno f1
    refine ⟨hS1, ?_⟩
    simp only [Act.put, List.setIfInBounds_toArray, List.set_cons_zero, List.set_cons_succ]
    refine take_held 10 (by assumption) rfl (by kernel_rfl) (by kernel_rfl) (by kernel_rfl) (fun _ _ _ h => h) (by kernel_rfl) (v := ?v39) ?y39 ?r39
    case y39 => (intro u hu; go_simp; try rfl)
    simp only [Act.put, List.setIfInBounds_toArray, List.set_cons_zero, List.set_cons_succ]
    refine done_held (by kernel_rfl) ?_ _
    go_wp2
    go_ret
    exact ⟨rfl, own1, s0.fr h1 f1, F0.trans (SFr.of S f1)⟩

set_option maxHeartbeats 1000000 in
theorem append_state {W w : World} {own : Owns} {D S : Nat} {L : Nat → Nat} {σ : St} {m c : Nat} {g f n : Int} (h : StoreIs W w own D S L σ m c g f n) (k : Int) (a : Option Addr) (l cap : Nat) (n0 : 0 ≤ n) (n1 : n < 9223372036854775807) (hk : k < 1 ∨ n + 1 < k) : Calls Try.prog 22 #[.pointer (Option.some ⟨S, 0, none⟩), .int .i64 k, .slice a l cap] w fun e w' => e = .returned (.int .i64 8) ∧ w' = w := by
  have h5 := h.cell 5
  simp only [cellsOf, List.getElem?_toArray, List.getElem?_cons_zero, List.getElem?_cons_succ] at h5
  have hn2 : n + 1 ≤ 9223372036854775807 := by omega
  have hn3 : ¬ (n + 1 < -9223372036854775808) := by omega
  by_cases hk2 : n + 1 < k
  · go_enter Try.func22, Try.ntmps22
    go_wp2
    go_ret
    exact ⟨rfl, rfl⟩
  · have hk1 : k < 1 := by omega
    go_enter Try.func22, Try.ntmps22
    go_wp2
    go_ret
    exact ⟨rfl, rfl⟩
set_option maxHeartbeats 1000000 in
theorem append_old {W w : World} {own : Owns} {D S : Nat} {L : Nat → Nat} {σ : St} {m c : Nat} {g f n : Int} (h : StoreIs W w own D S L σ m c g f n) (k : Int) (a : Option Addr) (l cap : Nat) (n1 : n < 9223372036854775807) (k1 : 1 ≤ k) (k2 : k ≤ n) : Calls Try.prog 22 #[.pointer (Option.some ⟨S, 0, none⟩), .int .i64 k, .slice a l cap] w fun e w' => e = .returned (.int .i64 0) ∧ w' = w := by
  have h5 := h.cell 5
  simp only [cellsOf, List.getElem?_toArray, List.getElem?_cons_zero, List.getElem?_cons_succ] at h5
  have hn2 : n + 1 ≤ 9223372036854775807 := by omega
  have g1 : ¬ (n + 1 < k) := by omega
  have g2 : ¬ (k < 1) := by omega
  go_enter Try.func22, Try.ntmps22
  go_wp2
  go_ret
  exact ⟨rfl, rfl⟩

set_option maxRecDepth 100000 in
set_option maxHeartbeats 4000000 in
theorem append_ok {W w : World} {own : Owns} {D S : Nat} {L : Nat → Nat} {σ : St} {m c : Nat} {g f n : Int} (h : StoreIs W w own D S L σ m c g f n) (hm : m < 4194304) (a : Option Addr) (l cap : Nat) (zs : List Int) (hr : Codec.Row w a l zs) (h0 : a = none → cap = 0) (hl : l ≤ 140737488350000) (n0 : 0 ≤ n) (n1 : n < 9223372036854775807) (h2 : (num (n + 1) ++ zs).length ≤ 65536) (hb : (now σ c).length + (8 + (num (n + 1) ++ zs).length) ≤ 16777216) :
    Calls Try.prog 22 #[.pointer (Option.some ⟨S, 0, none⟩), .int .i64 (n + 1), .slice a l cap] w fun e w' => e = .returned (.int .i64 0) ∧ ∃ own', StoreIs W w' own' D S L (appSt σ c (rec (num (n + 1) ++ zs))) (m + 1) c g f (n + 1) ∧ SFr S own own' w w' := by
  obtain ⟨IH, hIH⟩ : ∃ I : World → Prop, I = fun u => u.heap[S]? = Option.some (.cells (cellsOf L c g f n) 97 (0, 0)) := ⟨_, rfl⟩
  have k0 : ∀ u, IH u → u.cell? ⟨S, 0, none⟩ = Option.some (.pointer (Option.some ⟨L 0, 0, none⟩)) := fun u hu => by rw [hIH] at hu; exact cell_of_row u _ 0 _ _ _ hu
  have k1 : ∀ u, IH u → u.cell? ⟨S, 1, none⟩ = Option.some (.pointer (Option.some ⟨L 1, 0, none⟩)) := fun u hu => by rw [hIH] at hu; exact cell_of_row u _ 1 _ _ _ hu
  have k2 : ∀ u, IH u → u.cell? ⟨S, 2, none⟩ = Option.some (.int .i64 c) := fun u hu => by rw [hIH] at hu; exact cell_of_row u _ 2 _ _ _ hu
  have k3 : ∀ u, IH u → u.cell? ⟨S, 3, none⟩ = Option.some (.int .i64 g) := fun u hu => by rw [hIH] at hu; exact cell_of_row u _ 3 _ _ _ hu
  have k5 : ∀ u, IH u → u.cell? ⟨S, 5, none⟩ = Option.some (.int .i64 n) := fun u hu => by rw [hIH] at hu; exact cell_of_row u _ 5 _ _ _ hu
  have kH : ∀ u u', IH u → S < u.heap.size → Below u.heap.size u u' → IH u' := fun u u' hu hs hb => by rw [hIH] at hu ⊢; exact (hb.block _ hs).trans hu
  have kF : ∀ u u' o o', IH u → S < u.heap.size → o S = none → Fr o o' u u' → IH u' := fun u u' o o' hu hs hn hb => by rw [hIH] at hu ⊢; exact (hb.kept.block _ hs hn).trans hu
  have hlt := h.free.1
  have hno := h.free.2
  have hc := h.two
  have h5 := h.cell 5
  simp only [cellsOf, List.getElem?_toArray, List.getElem?_cons_zero, List.getElem?_cons_succ] at h5
  have lr := hr.len
  have ln := Codec.num_len (n + 1)
  have lp := Codec.num_pos (n + 1)
  have hS : IH w.drew := by rw [hIH]; exact h.row
  have s0 := h.drew
  have hI : I64 (n + 1) := ⟨by omega, by omega⟩
  have c1 := Codec.PutNumber_any none 0 0 [] (n + 1) w.drew ⟨rfl, Codec.Bytes.nil, fun i hi => by omega⟩ (fun _ => rfl) (by decide) hI
  rw [List.nil_append] at c1
  generalize hK : n + 1 = k at *
  have g1 : n + 1 ≤ 9223372036854775807 := by omega
  have g2 : ¬ (k < 1) := by omega
  have g3 : ¬ (k ≤ n) := by omega
  have gX : (num k ++ zs).length = (num k).length + l := by rw [List.length_append, lr]
  generalize hX : num k ++ zs = X at *
  rcases (show c = 0 ∨ c = 1 by omega) with rfl | rfl
  · go_enter Try.func22, Try.ntmps22
    go_wp2
    refine start_held (S := IH) 16 rfl (by kernel_rfl) (hS) ?_
    simp only [Array.replicate_succ, Array.replicate_zero, List.push_toArray, List.nil_append, List.cons_append]
    refine take_held 0 (by assumption) rfl (by kernel_rfl) (by kernel_rfl) (by kernel_rfl) (fun _ _ _ h => h) (by kernel_rfl) (v := ?v40) ?y40 ?r40
    case y40 => (intro u hu; go_simp; try rfl)
    simp only [Act.put, List.setIfInBounds_toArray, List.set_cons_zero, List.set_cons_succ]
    refine take_held 1 (by assumption) rfl (by kernel_rfl) (by kernel_rfl) (by kernel_rfl) (fun _ _ _ h => h) (by kernel_rfl) (v := ?v41) ?y41 ?r41
    case y41 => (intro u hu; go_simp; try rfl)
    simp only [Act.put, List.setIfInBounds_toArray, List.set_cons_zero, List.set_cons_succ]
    refine take_held 2 (by assumption) rfl (by kernel_rfl) (by kernel_rfl) (by kernel_rfl) (fun _ _ _ h => h) (by kernel_rfl) (v := ?v42) ?y42 ?r42
    case y42 => (intro u hu; go_simp; try rfl)
    simp only [Act.put, List.setIfInBounds_toArray, List.set_cons_zero, List.set_cons_succ]
    refine take_held 3 (by assumption) rfl (by kernel_rfl) (by kernel_rfl) (by kernel_rfl) (fun _ _ _ h => h) (by kernel_rfl) (v := ?v43) ?y43 ?r43
    case y43 => (intro u hu; go_simp; try rfl)
    simp only [Act.put, List.setIfInBounds_toArray, List.set_cons_zero, List.set_cons_succ]
    refine take_held 4 (by assumption) rfl (by kernel_rfl) (by kernel_rfl) (by kernel_rfl) (fun _ _ _ h => h) (by kernel_rfl) (v := ?v44) ?y44 ?r44
    case y44 => (intro u hu; have := k2 u hu; go_simp; try rfl)
    simp only [Act.put, List.setIfInBounds_toArray, List.set_cons_zero, List.set_cons_succ]
    refine take_held 5 (by assumption) rfl (by kernel_rfl) (by kernel_rfl) (by kernel_rfl) (fun _ _ _ h => h) (by kernel_rfl) (v := ?v45) ?y45 ?r45
    case y45 => (intro u hu; go_simp; try rfl)
    simp only [Act.put, List.setIfInBounds_toArray, List.set_cons_zero, List.set_cons_succ]
    refine take_held 6 (by assumption) rfl (by kernel_rfl) (by kernel_rfl) (by kernel_rfl) (fun _ _ _ h => h) (by kernel_rfl) (v := ?v46) ?y46 ?r46
    case y46 => (intro u hu; go_simp; try rfl)
    simp only [Act.put, List.setIfInBounds_toArray, List.set_cons_zero, List.set_cons_succ]
    refine take_held 7 (by assumption) rfl (by kernel_rfl) (by kernel_rfl) (by kernel_rfl) (fun _ _ _ h => h) (by kernel_rfl) (v := ?v47) ?y47 ?r47
    case y47 => (intro u hu; go_simp; try rfl)
    simp only [Act.put, List.setIfInBounds_toArray, List.set_cons_zero, List.set_cons_succ]
    refine take_held 8 (by assumption) rfl (by kernel_rfl) (by kernel_rfl) (by kernel_rfl) (fun _ _ _ h => h) (by kernel_rfl) (v := ?v48) ?y48 ?r48
    case y48 => (intro u hu; have := k0 u hu; go_simp; try rfl)
    simp only [Act.put, List.setIfInBounds_toArray, List.set_cons_zero, List.set_cons_succ]
    refine take_held 9 (by assumption) rfl (by kernel_rfl) (by kernel_rfl) (by kernel_rfl) (fun _ _ _ h => h) (by kernel_rfl) (v := ?v49) ?y49 ?r49
    case y49 => (intro u hu; go_simp; try rfl)
    simp only [Act.put, List.setIfInBounds_toArray, List.set_cons_zero, List.set_cons_succ]
    refine take_held 11 (by assumption) rfl (by kernel_rfl) (by kernel_rfl) (by kernel_rfl) (fun _ _ _ h => h) (by kernel_rfl) (v := ?v50) ?y50 ?r50
    case y50 => (intro u hu; go_simp; try rfl)
    simp only [Act.put, List.setIfInBounds_toArray, List.set_cons_zero, List.set_cons_succ]
    refine call_held 10 rfl (by kernel_rfl) (by kernel_rfl) 61 #[.slice none 0 0, .int .i64 k] (by go_simp) _ c1 ?_
    rintro v w1 ⟨m1, b1, e1⟩
    have hS1 : IH w1 := kH w.drew w1 hS hlt b1
    have B1 : Below w.heap.size w w1 := (Below.refl w.heap.size w).drew.trans b1
    obtain ⟨a1, d1, rfl, r1, z1, l1, q1⟩ := m1.form
    refine ⟨hS1, ?_⟩
    simp only [Act.put, List.setIfInBounds_toArray, List.set_cons_zero, List.set_cons_succ]
    have bA : Below w1.heap.size w1 (w1.alloc (.cells #[.slice a1 (num k).length d1, .slice a l cap] 30)) := (Below.refl _ _).alloc (Nat.le_refl _) _
    have hS2 : IH (w1.alloc (.cells #[.slice a1 (num k).length d1, .slice a l cap] 30)) := kH w1 _ hS1 (Nat.lt_of_lt_of_le hlt B1.size) bA
    have x0 : (w1.alloc (.cells #[.slice a1 (num k).length d1, .slice a l cap] 30)).cell? ⟨w1.heap.size, 0, none⟩ = Option.some (.slice a1 (num k).length d1) := Codec.cell_new _ _ _ _ _
    have x1 : (w1.alloc (.cells #[.slice a1 (num k).length d1, .slice a l cap] 30)).cell? ⟨w1.heap.size, 1, none⟩ = Option.some (.slice a l cap) := Codec.cell_new _ _ _ _ _
    have c2 := Codec.concat_any w1.heap.size _ a1 a (num k).length l d1 cap (num k) zs (r1.after bA) (hr.after (Codec.bcat B1 bA (Nat.le_refl _))) (fun h => (z1 h).2) h0 (by omega) (by omega) x0 x1
    rw [hX] at c2
    refine value_held 12 rfl (by kernel_rfl) (by kernel_rfl) (.slice (Option.some ⟨w1.heap.size, 0, none⟩) 2 2) (w1.alloc (.cells #[.slice a1 (num k).length d1, .slice a l cap] 30)) (by go_simp; try rfl) hS2 ?_
    simp only [Act.put, List.setIfInBounds_toArray, List.set_cons_zero, List.set_cons_succ]
    generalize hw2 : w1.alloc (.cells #[.slice a1 (num k).length d1, .slice a l cap] 30) = w2 at *
    have B2 := Codec.bcat B1 bA (Nat.le_refl _)
    refine call_held 13 rfl (by kernel_rfl) (by kernel_rfl) 60 #[.slice (Option.some ⟨w1.heap.size, 0, none⟩) 2 2] (by go_simp) _ c2 ?_
    rintro v w3 ⟨m3, b3, e3⟩
    have hS3 : IH w3 := kH w2 w3 hS2 (Nat.lt_of_lt_of_le hlt B2.size) b3
    have B3 := Codec.bcat B2 b3 (Nat.le_refl _)
    have S3 := h.later B3
    obtain ⟨a3, d3, rfl, r3, z3, l3, q3⟩ := m3.form
    have cA := Wal.append_any S3.live hm (S3.log 0 (by decide)) (by decide) a3 X.length d3 X ⟨r3.len, r3.small, r3.cell⟩ (fun h => (z3 h).2) (by omega) h2 hb
    refine ⟨hS3, ?_⟩
    simp only [Act.put, List.setIfInBounds_toArray, List.set_cons_zero, List.set_cons_succ]
    refine call_held 14 rfl (by kernel_rfl) (by kernel_rfl) 59 #[.pointer (Option.some ⟨L 0, 0, none⟩), .slice a3 X.length d3] (by go_simp) _ (Wal.call_val cA) ?_
    rintro v w4 ⟨rfl, own4, h4, f4⟩
    have S4 := S3.fr h4 f4
    have hS4 : IH w4 := kF w3 w4 own own4 hS3 S3.free.1 hno f4
    have F4 := (SFr.below (o := own) S B3).trans (SFr.of S f4)
    refine ⟨hS4, ?_⟩
    simp only [Act.put, List.setIfInBounds_toArray, List.set_cons_zero, List.set_cons_succ]
    refine take_held 15 (by assumption) rfl (by kernel_rfl) (by kernel_rfl) (by kernel_rfl) (fun _ _ _ h => h) (by kernel_rfl) (v := ?v51) ?y51 ?r51
    case y51 => (intro u hu; go_simp; try rfl)
    simp only [Act.put, List.setIfInBounds_toArray, List.set_cons_zero, List.set_cons_succ]
    refine done_held (by kernel_rfl) ?_ _
    have y5 := S4.cell 5
    have z5 := S4.frozen 5
    simp only [cellsOf, List.getElem?_toArray, List.getElem?_cons_zero, List.getElem?_cons_succ] at y5
    go_wp2
    go_ret
    exact ⟨rfl, own4, S4.set 5 (.int .i64 k) (by decide) rfl, F4.trans (sfr_set w4 S 5 _)⟩
  · go_enter Try.func22, Try.ntmps22
    go_wp2
    refine start_held (S := IH) 16 rfl (by kernel_rfl) (hS) ?_
    simp only [Array.replicate_succ, Array.replicate_zero, List.push_toArray, List.nil_append, List.cons_append]
    refine take_held 0 (by assumption) rfl (by kernel_rfl) (by kernel_rfl) (by kernel_rfl) (fun _ _ _ h => h) (by kernel_rfl) (v := ?v52) ?y52 ?r52
    case y52 => (intro u hu; go_simp; try rfl)
    simp only [Act.put, List.setIfInBounds_toArray, List.set_cons_zero, List.set_cons_succ]
    refine take_held 1 (by assumption) rfl (by kernel_rfl) (by kernel_rfl) (by kernel_rfl) (fun _ _ _ h => h) (by kernel_rfl) (v := ?v53) ?y53 ?r53
    case y53 => (intro u hu; go_simp; try rfl)
    simp only [Act.put, List.setIfInBounds_toArray, List.set_cons_zero, List.set_cons_succ]
    refine take_held 2 (by assumption) rfl (by kernel_rfl) (by kernel_rfl) (by kernel_rfl) (fun _ _ _ h => h) (by kernel_rfl) (v := ?v54) ?y54 ?r54
    case y54 => (intro u hu; go_simp; try rfl)
    simp only [Act.put, List.setIfInBounds_toArray, List.set_cons_zero, List.set_cons_succ]
    refine take_held 3 (by assumption) rfl (by kernel_rfl) (by kernel_rfl) (by kernel_rfl) (fun _ _ _ h => h) (by kernel_rfl) (v := ?v55) ?y55 ?r55
    case y55 => (intro u hu; go_simp; try rfl)
    simp only [Act.put, List.setIfInBounds_toArray, List.set_cons_zero, List.set_cons_succ]
    refine take_held 4 (by assumption) rfl (by kernel_rfl) (by kernel_rfl) (by kernel_rfl) (fun _ _ _ h => h) (by kernel_rfl) (v := ?v56) ?y56 ?r56
    case y56 => (intro u hu; have := k2 u hu; go_simp; try rfl)
    simp only [Act.put, List.setIfInBounds_toArray, List.set_cons_zero, List.set_cons_succ]
    refine take_held 5 (by assumption) rfl (by kernel_rfl) (by kernel_rfl) (by kernel_rfl) (fun _ _ _ h => h) (by kernel_rfl) (v := ?v57) ?y57 ?r57
    case y57 => (intro u hu; go_simp; try rfl)
    simp only [Act.put, List.setIfInBounds_toArray, List.set_cons_zero, List.set_cons_succ]
    refine take_held 6 (by assumption) rfl (by kernel_rfl) (by kernel_rfl) (by kernel_rfl) (fun _ _ _ h => h) (by kernel_rfl) (v := ?v58) ?y58 ?r58
    case y58 => (intro u hu; go_simp; try rfl)
    simp only [Act.put, List.setIfInBounds_toArray, List.set_cons_zero, List.set_cons_succ]
    refine take_held 7 (by assumption) rfl (by kernel_rfl) (by kernel_rfl) (by kernel_rfl) (fun _ _ _ h => h) (by kernel_rfl) (v := ?v59) ?y59 ?r59
    case y59 => (intro u hu; go_simp; try rfl)
    simp only [Act.put, List.setIfInBounds_toArray, List.set_cons_zero, List.set_cons_succ]
    refine take_held 8 (by assumption) rfl (by kernel_rfl) (by kernel_rfl) (by kernel_rfl) (fun _ _ _ h => h) (by kernel_rfl) (v := ?v60) ?y60 ?r60
    case y60 => (intro u hu; have := k1 u hu; go_simp; try rfl)
    simp only [Act.put, List.setIfInBounds_toArray, List.set_cons_zero, List.set_cons_succ]
    refine take_held 9 (by assumption) rfl (by kernel_rfl) (by kernel_rfl) (by kernel_rfl) (fun _ _ _ h => h) (by kernel_rfl) (v := ?v61) ?y61 ?r61
    case y61 => (intro u hu; go_simp; try rfl)
    simp only [Act.put, List.setIfInBounds_toArray, List.set_cons_zero, List.set_cons_succ]
    refine take_held 11 (by assumption) rfl (by kernel_rfl) (by kernel_rfl) (by kernel_rfl) (fun _ _ _ h => h) (by kernel_rfl) (v := ?v62) ?y62 ?r62
    case y62 => (intro u hu; go_simp; try rfl)
    simp only [Act.put, List.setIfInBounds_toArray, List.set_cons_zero, List.set_cons_succ]
    refine call_held 10 rfl (by kernel_rfl) (by kernel_rfl) 61 #[.slice none 0 0, .int .i64 k] (by go_simp) _ c1 ?_
    rintro v w1 ⟨m1, b1, e1⟩
    have hS1 : IH w1 := kH w.drew w1 hS hlt b1
    have B1 : Below w.heap.size w w1 := (Below.refl w.heap.size w).drew.trans b1
    obtain ⟨a1, d1, rfl, r1, z1, l1, q1⟩ := m1.form
    refine ⟨hS1, ?_⟩
    simp only [Act.put, List.setIfInBounds_toArray, List.set_cons_zero, List.set_cons_succ]
    have bA : Below w1.heap.size w1 (w1.alloc (.cells #[.slice a1 (num k).length d1, .slice a l cap] 30)) := (Below.refl _ _).alloc (Nat.le_refl _) _
    have hS2 : IH (w1.alloc (.cells #[.slice a1 (num k).length d1, .slice a l cap] 30)) := kH w1 _ hS1 (Nat.lt_of_lt_of_le hlt B1.size) bA
    have x0 : (w1.alloc (.cells #[.slice a1 (num k).length d1, .slice a l cap] 30)).cell? ⟨w1.heap.size, 0, none⟩ = Option.some (.slice a1 (num k).length d1) := Codec.cell_new _ _ _ _ _
    have x1 : (w1.alloc (.cells #[.slice a1 (num k).length d1, .slice a l cap] 30)).cell? ⟨w1.heap.size, 1, none⟩ = Option.some (.slice a l cap) := Codec.cell_new _ _ _ _ _
    have c2 := Codec.concat_any w1.heap.size _ a1 a (num k).length l d1 cap (num k) zs (r1.after bA) (hr.after (Codec.bcat B1 bA (Nat.le_refl _))) (fun h => (z1 h).2) h0 (by omega) (by omega) x0 x1
    rw [hX] at c2
    refine value_held 12 rfl (by kernel_rfl) (by kernel_rfl) (.slice (Option.some ⟨w1.heap.size, 0, none⟩) 2 2) (w1.alloc (.cells #[.slice a1 (num k).length d1, .slice a l cap] 30)) (by go_simp; try rfl) hS2 ?_
    simp only [Act.put, List.setIfInBounds_toArray, List.set_cons_zero, List.set_cons_succ]
    generalize hw2 : w1.alloc (.cells #[.slice a1 (num k).length d1, .slice a l cap] 30) = w2 at *
    have B2 := Codec.bcat B1 bA (Nat.le_refl _)
    refine call_held 13 rfl (by kernel_rfl) (by kernel_rfl) 60 #[.slice (Option.some ⟨w1.heap.size, 0, none⟩) 2 2] (by go_simp) _ c2 ?_
    rintro v w3 ⟨m3, b3, e3⟩
    have hS3 : IH w3 := kH w2 w3 hS2 (Nat.lt_of_lt_of_le hlt B2.size) b3
    have B3 := Codec.bcat B2 b3 (Nat.le_refl _)
    have S3 := h.later B3
    obtain ⟨a3, d3, rfl, r3, z3, l3, q3⟩ := m3.form
    have cA := Wal.append_any S3.live hm (S3.log 1 (by decide)) (by decide) a3 X.length d3 X ⟨r3.len, r3.small, r3.cell⟩ (fun h => (z3 h).2) (by omega) h2 hb
    refine ⟨hS3, ?_⟩
    simp only [Act.put, List.setIfInBounds_toArray, List.set_cons_zero, List.set_cons_succ]
    refine call_held 14 rfl (by kernel_rfl) (by kernel_rfl) 59 #[.pointer (Option.some ⟨L 1, 0, none⟩), .slice a3 X.length d3] (by go_simp) _ (Wal.call_val cA) ?_
    rintro v w4 ⟨rfl, own4, h4, f4⟩
    have S4 := S3.fr h4 f4
    have hS4 : IH w4 := kF w3 w4 own own4 hS3 S3.free.1 hno f4
    have F4 := (SFr.below (o := own) S B3).trans (SFr.of S f4)
    refine ⟨hS4, ?_⟩
    simp only [Act.put, List.setIfInBounds_toArray, List.set_cons_zero, List.set_cons_succ]
    refine take_held 15 (by assumption) rfl (by kernel_rfl) (by kernel_rfl) (by kernel_rfl) (fun _ _ _ h => h) (by kernel_rfl) (v := ?v63) ?y63 ?r63
    case y63 => (intro u hu; go_simp; try rfl)
    simp only [Act.put, List.setIfInBounds_toArray, List.set_cons_zero, List.set_cons_succ]
    refine done_held (by kernel_rfl) ?_ _
    have y5 := S4.cell 5
    have z5 := S4.frozen 5
    simp only [cellsOf, List.getElem?_toArray, List.getElem?_cons_zero, List.getElem?_cons_succ] at y5
    go_wp2
    go_ret
    exact ⟨rfl, own4, S4.set 5 (.int .i64 k) (by decide) rfl, F4.trans (sfr_set w4 S 5 _)⟩

set_option maxRecDepth 100000 in
set_option maxHeartbeats 4000000 in
theorem append_arg {W w : World} {own : Owns} {D S : Nat} {L : Nat → Nat} {σ : St} {m c : Nat} {g f n : Int} (h : StoreIs W w own D S L σ m c g f n) (hm : m < 4194304) (a : Option Addr) (l cap : Nat) (zs : List Int) (hr : Codec.Row w a l zs) (h0 : a = none → cap = 0) (hl : l ≤ 140737488350000) (n0 : 0 ≤ n) (n1 : n < 9223372036854775807) (h2 : 65536 < (num (n + 1) ++ zs).length) :
    Calls Try.prog 22 #[.pointer (Option.some ⟨S, 0, none⟩), .int .i64 (n + 1), .slice a l cap] w fun e w' => e = .returned (.int .i64 1) ∧ Below w.heap.size w w' := by
  obtain ⟨IH, hIH⟩ : ∃ I : World → Prop, I = fun u => u.heap[S]? = Option.some (.cells (cellsOf L c g f n) 97 (0, 0)) := ⟨_, rfl⟩
  have k0 : ∀ u, IH u → u.cell? ⟨S, 0, none⟩ = Option.some (.pointer (Option.some ⟨L 0, 0, none⟩)) := fun u hu => by rw [hIH] at hu; exact cell_of_row u _ 0 _ _ _ hu
  have k1 : ∀ u, IH u → u.cell? ⟨S, 1, none⟩ = Option.some (.pointer (Option.some ⟨L 1, 0, none⟩)) := fun u hu => by rw [hIH] at hu; exact cell_of_row u _ 1 _ _ _ hu
  have k2 : ∀ u, IH u → u.cell? ⟨S, 2, none⟩ = Option.some (.int .i64 c) := fun u hu => by rw [hIH] at hu; exact cell_of_row u _ 2 _ _ _ hu
  have k3 : ∀ u, IH u → u.cell? ⟨S, 3, none⟩ = Option.some (.int .i64 g) := fun u hu => by rw [hIH] at hu; exact cell_of_row u _ 3 _ _ _ hu
  have k5 : ∀ u, IH u → u.cell? ⟨S, 5, none⟩ = Option.some (.int .i64 n) := fun u hu => by rw [hIH] at hu; exact cell_of_row u _ 5 _ _ _ hu
  have kH : ∀ u u', IH u → S < u.heap.size → Below u.heap.size u u' → IH u' := fun u u' hu hs hb => by rw [hIH] at hu ⊢; exact (hb.block _ hs).trans hu
  have kF : ∀ u u' o o', IH u → S < u.heap.size → o S = none → Fr o o' u u' → IH u' := fun u u' o o' hu hs hn hb => by rw [hIH] at hu ⊢; exact (hb.kept.block _ hs hn).trans hu
  have hlt := h.free.1
  have hno := h.free.2
  have hc := h.two
  have h5 := h.cell 5
  simp only [cellsOf, List.getElem?_toArray, List.getElem?_cons_zero, List.getElem?_cons_succ] at h5
  have lr := hr.len
  have ln := Codec.num_len (n + 1)
  have lp := Codec.num_pos (n + 1)
  have hS : IH w.drew := by rw [hIH]; exact h.row
  have s0 := h.drew
  have hI : I64 (n + 1) := ⟨by omega, by omega⟩
  have c1 := Codec.PutNumber_any none 0 0 [] (n + 1) w.drew ⟨rfl, Codec.Bytes.nil, fun i hi => by omega⟩ (fun _ => rfl) (by decide) hI
  rw [List.nil_append] at c1
  generalize hK : n + 1 = k at *
  have g1 : n + 1 ≤ 9223372036854775807 := by omega
  have g2 : ¬ (k < 1) := by omega
  have g3 : ¬ (k ≤ n) := by omega
  have gX : (num k ++ zs).length = (num k).length + l := by rw [List.length_append, lr]
  generalize hX : num k ++ zs = X at *
  rcases (show c = 0 ∨ c = 1 by omega) with rfl | rfl
  · go_enter Try.func22, Try.ntmps22
    go_wp2
    refine start_held (S := IH) 16 rfl (by kernel_rfl) (hS) ?_
    simp only [Array.replicate_succ, Array.replicate_zero, List.push_toArray, List.nil_append, List.cons_append]
    refine take_held 0 (by assumption) rfl (by kernel_rfl) (by kernel_rfl) (by kernel_rfl) (fun _ _ _ h => h) (by kernel_rfl) (v := ?v64) ?y64 ?r64
    case y64 => (intro u hu; go_simp; try rfl)
    simp only [Act.put, List.setIfInBounds_toArray, List.set_cons_zero, List.set_cons_succ]
    refine take_held 1 (by assumption) rfl (by kernel_rfl) (by kernel_rfl) (by kernel_rfl) (fun _ _ _ h => h) (by kernel_rfl) (v := ?v65) ?y65 ?r65
    case y65 => (intro u hu; go_simp; try rfl)
    simp only [Act.put, List.setIfInBounds_toArray, List.set_cons_zero, List.set_cons_succ]
    refine take_held 2 (by assumption) rfl (by kernel_rfl) (by kernel_rfl) (by kernel_rfl) (fun _ _ _ h => h) (by kernel_rfl) (v := ?v66) ?y66 ?r66
    case y66 => (intro u hu; go_simp; try rfl)
    simp only [Act.put, List.setIfInBounds_toArray, List.set_cons_zero, List.set_cons_succ]
    refine take_held 3 (by assumption) rfl (by kernel_rfl) (by kernel_rfl) (by kernel_rfl) (fun _ _ _ h => h) (by kernel_rfl) (v := ?v67) ?y67 ?r67
    case y67 => (intro u hu; go_simp; try rfl)
    simp only [Act.put, List.setIfInBounds_toArray, List.set_cons_zero, List.set_cons_succ]
    refine take_held 4 (by assumption) rfl (by kernel_rfl) (by kernel_rfl) (by kernel_rfl) (fun _ _ _ h => h) (by kernel_rfl) (v := ?v68) ?y68 ?r68
    case y68 => (intro u hu; have := k2 u hu; go_simp; try rfl)
    simp only [Act.put, List.setIfInBounds_toArray, List.set_cons_zero, List.set_cons_succ]
    refine take_held 5 (by assumption) rfl (by kernel_rfl) (by kernel_rfl) (by kernel_rfl) (fun _ _ _ h => h) (by kernel_rfl) (v := ?v69) ?y69 ?r69
    case y69 => (intro u hu; go_simp; try rfl)
    simp only [Act.put, List.setIfInBounds_toArray, List.set_cons_zero, List.set_cons_succ]
    refine take_held 6 (by assumption) rfl (by kernel_rfl) (by kernel_rfl) (by kernel_rfl) (fun _ _ _ h => h) (by kernel_rfl) (v := ?v70) ?y70 ?r70
    case y70 => (intro u hu; go_simp; try rfl)
    simp only [Act.put, List.setIfInBounds_toArray, List.set_cons_zero, List.set_cons_succ]
    refine take_held 7 (by assumption) rfl (by kernel_rfl) (by kernel_rfl) (by kernel_rfl) (fun _ _ _ h => h) (by kernel_rfl) (v := ?v71) ?y71 ?r71
    case y71 => (intro u hu; go_simp; try rfl)
    simp only [Act.put, List.setIfInBounds_toArray, List.set_cons_zero, List.set_cons_succ]
    refine take_held 8 (by assumption) rfl (by kernel_rfl) (by kernel_rfl) (by kernel_rfl) (fun _ _ _ h => h) (by kernel_rfl) (v := ?v72) ?y72 ?r72
    case y72 => (intro u hu; have := k0 u hu; go_simp; try rfl)
    simp only [Act.put, List.setIfInBounds_toArray, List.set_cons_zero, List.set_cons_succ]
    refine take_held 9 (by assumption) rfl (by kernel_rfl) (by kernel_rfl) (by kernel_rfl) (fun _ _ _ h => h) (by kernel_rfl) (v := ?v73) ?y73 ?r73
    case y73 => (intro u hu; go_simp; try rfl)
    simp only [Act.put, List.setIfInBounds_toArray, List.set_cons_zero, List.set_cons_succ]
    refine take_held 11 (by assumption) rfl (by kernel_rfl) (by kernel_rfl) (by kernel_rfl) (fun _ _ _ h => h) (by kernel_rfl) (v := ?v74) ?y74 ?r74
    case y74 => (intro u hu; go_simp; try rfl)
    simp only [Act.put, List.setIfInBounds_toArray, List.set_cons_zero, List.set_cons_succ]
    refine call_held 10 rfl (by kernel_rfl) (by kernel_rfl) 61 #[.slice none 0 0, .int .i64 k] (by go_simp) _ c1 ?_
    rintro v w1 ⟨m1, b1, e1⟩
    have hS1 : IH w1 := kH w.drew w1 hS hlt b1
    have B1 : Below w.heap.size w w1 := (Below.refl w.heap.size w).drew.trans b1
    obtain ⟨a1, d1, rfl, r1, z1, l1, q1⟩ := m1.form
    refine ⟨hS1, ?_⟩
    simp only [Act.put, List.setIfInBounds_toArray, List.set_cons_zero, List.set_cons_succ]
    have bA : Below w1.heap.size w1 (w1.alloc (.cells #[.slice a1 (num k).length d1, .slice a l cap] 30)) := (Below.refl _ _).alloc (Nat.le_refl _) _
    have hS2 : IH (w1.alloc (.cells #[.slice a1 (num k).length d1, .slice a l cap] 30)) := kH w1 _ hS1 (Nat.lt_of_lt_of_le hlt B1.size) bA
    have x0 : (w1.alloc (.cells #[.slice a1 (num k).length d1, .slice a l cap] 30)).cell? ⟨w1.heap.size, 0, none⟩ = Option.some (.slice a1 (num k).length d1) := Codec.cell_new _ _ _ _ _
    have x1 : (w1.alloc (.cells #[.slice a1 (num k).length d1, .slice a l cap] 30)).cell? ⟨w1.heap.size, 1, none⟩ = Option.some (.slice a l cap) := Codec.cell_new _ _ _ _ _
    have c2 := Codec.concat_any w1.heap.size _ a1 a (num k).length l d1 cap (num k) zs (r1.after bA) (hr.after (Codec.bcat B1 bA (Nat.le_refl _))) (fun h => (z1 h).2) h0 (by omega) (by omega) x0 x1
    rw [hX] at c2
    refine value_held 12 rfl (by kernel_rfl) (by kernel_rfl) (.slice (Option.some ⟨w1.heap.size, 0, none⟩) 2 2) (w1.alloc (.cells #[.slice a1 (num k).length d1, .slice a l cap] 30)) (by go_simp; try rfl) hS2 ?_
    simp only [Act.put, List.setIfInBounds_toArray, List.set_cons_zero, List.set_cons_succ]
    generalize hw2 : w1.alloc (.cells #[.slice a1 (num k).length d1, .slice a l cap] 30) = w2 at *
    have B2 := Codec.bcat B1 bA (Nat.le_refl _)
    refine call_held 13 rfl (by kernel_rfl) (by kernel_rfl) 60 #[.slice (Option.some ⟨w1.heap.size, 0, none⟩) 2 2] (by go_simp) _ c2 ?_
    rintro v w3 ⟨m3, b3, e3⟩
    have hS3 : IH w3 := kH w2 w3 hS2 (Nat.lt_of_lt_of_le hlt B2.size) b3
    have B3 := Codec.bcat B2 b3 (Nat.le_refl _)
    have S3 := h.later B3
    obtain ⟨a3, d3, rfl, r3, z3, l3, q3⟩ := m3.form
    have cA := Wal.append_no S3.live hm (S3.log 0 (by decide)) (by decide) a3 X.length d3 (Or.inr h2) (by omega)
    refine ⟨hS3, ?_⟩
    simp only [Act.put, List.setIfInBounds_toArray, List.set_cons_zero, List.set_cons_succ]
    refine call_held 14 rfl (by kernel_rfl) (by kernel_rfl) 59 #[.pointer (Option.some ⟨L 0, 0, none⟩), .slice a3 X.length d3] (by go_simp) _ (Wal.call_val cA) ?_
    rintro v w4 ⟨rfl, hw4⟩
    have hS4 : IH w4 := by rw [hw4]; exact hS3
    refine ⟨hS4, ?_⟩
    simp only [Act.put, List.setIfInBounds_toArray, List.set_cons_zero, List.set_cons_succ]
    refine take_held 15 (by assumption) rfl (by kernel_rfl) (by kernel_rfl) (by kernel_rfl) (fun _ _ _ h => h) (by kernel_rfl) (v := ?v75) ?y75 ?r75
    case y75 => (intro u hu; go_simp; try rfl)
    simp only [Act.put, List.setIfInBounds_toArray, List.set_cons_zero, List.set_cons_succ]
    refine done_held (by kernel_rfl) ?_ _
    go_wp2
    go_ret
    exact ⟨rfl, B3⟩
  · go_enter Try.func22, Try.ntmps22
    go_wp2
    refine start_held (S := IH) 16 rfl (by kernel_rfl) (hS) ?_
    simp only [Array.replicate_succ, Array.replicate_zero, List.push_toArray, List.nil_append, List.cons_append]
    refine take_held 0 (by assumption) rfl (by kernel_rfl) (by kernel_rfl) (by kernel_rfl) (fun _ _ _ h => h) (by kernel_rfl) (v := ?v76) ?y76 ?r76
    case y76 => (intro u hu; go_simp; try rfl)
    simp only [Act.put, List.setIfInBounds_toArray, List.set_cons_zero, List.set_cons_succ]
    refine take_held 1 (by assumption) rfl (by kernel_rfl) (by kernel_rfl) (by kernel_rfl) (fun _ _ _ h => h) (by kernel_rfl) (v := ?v77) ?y77 ?r77
    case y77 => (intro u hu; go_simp; try rfl)
    simp only [Act.put, List.setIfInBounds_toArray, List.set_cons_zero, List.set_cons_succ]
    refine take_held 2 (by assumption) rfl (by kernel_rfl) (by kernel_rfl) (by kernel_rfl) (fun _ _ _ h => h) (by kernel_rfl) (v := ?v78) ?y78 ?r78
    case y78 => (intro u hu; go_simp; try rfl)
    simp only [Act.put, List.setIfInBounds_toArray, List.set_cons_zero, List.set_cons_succ]
    refine take_held 3 (by assumption) rfl (by kernel_rfl) (by kernel_rfl) (by kernel_rfl) (fun _ _ _ h => h) (by kernel_rfl) (v := ?v79) ?y79 ?r79
    case y79 => (intro u hu; go_simp; try rfl)
    simp only [Act.put, List.setIfInBounds_toArray, List.set_cons_zero, List.set_cons_succ]
    refine take_held 4 (by assumption) rfl (by kernel_rfl) (by kernel_rfl) (by kernel_rfl) (fun _ _ _ h => h) (by kernel_rfl) (v := ?v80) ?y80 ?r80
    case y80 => (intro u hu; have := k2 u hu; go_simp; try rfl)
    simp only [Act.put, List.setIfInBounds_toArray, List.set_cons_zero, List.set_cons_succ]
    refine take_held 5 (by assumption) rfl (by kernel_rfl) (by kernel_rfl) (by kernel_rfl) (fun _ _ _ h => h) (by kernel_rfl) (v := ?v81) ?y81 ?r81
    case y81 => (intro u hu; go_simp; try rfl)
    simp only [Act.put, List.setIfInBounds_toArray, List.set_cons_zero, List.set_cons_succ]
    refine take_held 6 (by assumption) rfl (by kernel_rfl) (by kernel_rfl) (by kernel_rfl) (fun _ _ _ h => h) (by kernel_rfl) (v := ?v82) ?y82 ?r82
    case y82 => (intro u hu; go_simp; try rfl)
    simp only [Act.put, List.setIfInBounds_toArray, List.set_cons_zero, List.set_cons_succ]
    refine take_held 7 (by assumption) rfl (by kernel_rfl) (by kernel_rfl) (by kernel_rfl) (fun _ _ _ h => h) (by kernel_rfl) (v := ?v83) ?y83 ?r83
    case y83 => (intro u hu; go_simp; try rfl)
    simp only [Act.put, List.setIfInBounds_toArray, List.set_cons_zero, List.set_cons_succ]
    refine take_held 8 (by assumption) rfl (by kernel_rfl) (by kernel_rfl) (by kernel_rfl) (fun _ _ _ h => h) (by kernel_rfl) (v := ?v84) ?y84 ?r84
    case y84 => (intro u hu; have := k1 u hu; go_simp; try rfl)
    simp only [Act.put, List.setIfInBounds_toArray, List.set_cons_zero, List.set_cons_succ]
    refine take_held 9 (by assumption) rfl (by kernel_rfl) (by kernel_rfl) (by kernel_rfl) (fun _ _ _ h => h) (by kernel_rfl) (v := ?v85) ?y85 ?r85
    case y85 => (intro u hu; go_simp; try rfl)
    simp only [Act.put, List.setIfInBounds_toArray, List.set_cons_zero, List.set_cons_succ]
    refine take_held 11 (by assumption) rfl (by kernel_rfl) (by kernel_rfl) (by kernel_rfl) (fun _ _ _ h => h) (by kernel_rfl) (v := ?v86) ?y86 ?r86
    case y86 => (intro u hu; go_simp; try rfl)
    simp only [Act.put, List.setIfInBounds_toArray, List.set_cons_zero, List.set_cons_succ]
    refine call_held 10 rfl (by kernel_rfl) (by kernel_rfl) 61 #[.slice none 0 0, .int .i64 k] (by go_simp) _ c1 ?_
    rintro v w1 ⟨m1, b1, e1⟩
    have hS1 : IH w1 := kH w.drew w1 hS hlt b1
    have B1 : Below w.heap.size w w1 := (Below.refl w.heap.size w).drew.trans b1
    obtain ⟨a1, d1, rfl, r1, z1, l1, q1⟩ := m1.form
    refine ⟨hS1, ?_⟩
    simp only [Act.put, List.setIfInBounds_toArray, List.set_cons_zero, List.set_cons_succ]
    have bA : Below w1.heap.size w1 (w1.alloc (.cells #[.slice a1 (num k).length d1, .slice a l cap] 30)) := (Below.refl _ _).alloc (Nat.le_refl _) _
    have hS2 : IH (w1.alloc (.cells #[.slice a1 (num k).length d1, .slice a l cap] 30)) := kH w1 _ hS1 (Nat.lt_of_lt_of_le hlt B1.size) bA
    have x0 : (w1.alloc (.cells #[.slice a1 (num k).length d1, .slice a l cap] 30)).cell? ⟨w1.heap.size, 0, none⟩ = Option.some (.slice a1 (num k).length d1) := Codec.cell_new _ _ _ _ _
    have x1 : (w1.alloc (.cells #[.slice a1 (num k).length d1, .slice a l cap] 30)).cell? ⟨w1.heap.size, 1, none⟩ = Option.some (.slice a l cap) := Codec.cell_new _ _ _ _ _
    have c2 := Codec.concat_any w1.heap.size _ a1 a (num k).length l d1 cap (num k) zs (r1.after bA) (hr.after (Codec.bcat B1 bA (Nat.le_refl _))) (fun h => (z1 h).2) h0 (by omega) (by omega) x0 x1
    rw [hX] at c2
    refine value_held 12 rfl (by kernel_rfl) (by kernel_rfl) (.slice (Option.some ⟨w1.heap.size, 0, none⟩) 2 2) (w1.alloc (.cells #[.slice a1 (num k).length d1, .slice a l cap] 30)) (by go_simp; try rfl) hS2 ?_
    simp only [Act.put, List.setIfInBounds_toArray, List.set_cons_zero, List.set_cons_succ]
    generalize hw2 : w1.alloc (.cells #[.slice a1 (num k).length d1, .slice a l cap] 30) = w2 at *
    have B2 := Codec.bcat B1 bA (Nat.le_refl _)
    refine call_held 13 rfl (by kernel_rfl) (by kernel_rfl) 60 #[.slice (Option.some ⟨w1.heap.size, 0, none⟩) 2 2] (by go_simp) _ c2 ?_
    rintro v w3 ⟨m3, b3, e3⟩
    have hS3 : IH w3 := kH w2 w3 hS2 (Nat.lt_of_lt_of_le hlt B2.size) b3
    have B3 := Codec.bcat B2 b3 (Nat.le_refl _)
    have S3 := h.later B3
    obtain ⟨a3, d3, rfl, r3, z3, l3, q3⟩ := m3.form
    have cA := Wal.append_no S3.live hm (S3.log 1 (by decide)) (by decide) a3 X.length d3 (Or.inr h2) (by omega)
    refine ⟨hS3, ?_⟩
    simp only [Act.put, List.setIfInBounds_toArray, List.set_cons_zero, List.set_cons_succ]
    refine call_held 14 rfl (by kernel_rfl) (by kernel_rfl) 59 #[.pointer (Option.some ⟨L 1, 0, none⟩), .slice a3 X.length d3] (by go_simp) _ (Wal.call_val cA) ?_
    rintro v w4 ⟨rfl, hw4⟩
    have hS4 : IH w4 := by rw [hw4]; exact hS3
    refine ⟨hS4, ?_⟩
    simp only [Act.put, List.setIfInBounds_toArray, List.set_cons_zero, List.set_cons_succ]
    refine take_held 15 (by assumption) rfl (by kernel_rfl) (by kernel_rfl) (by kernel_rfl) (fun _ _ _ h => h) (by kernel_rfl) (v := ?v87) ?y87 ?r87
    case y87 => (intro u hu; go_simp; try rfl)
    simp only [Act.put, List.setIfInBounds_toArray, List.set_cons_zero, List.set_cons_succ]
    refine done_held (by kernel_rfl) ?_ _
    go_wp2
    go_ret
    exact ⟨rfl, B3⟩
end Go.Proofs.Yticfkdiggiogdaa.Store
