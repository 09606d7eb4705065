/-
  The other calls of a log: Append, Sync, Erase, Size.
-/
import Derived.Test.YtnehkjabhmhijaaWalOrder
namespace Go.Proofs.Ytnehkjabhmhijaa.Wal
set_option linter.unusedVariables false
set_option linter.unusedSimpArgs false
open Go Go.RowKit Go.Shelf Go.Proofs
open Go.Proofs.Ytnehkjabhmhijaa.Disk (Row getD_in ret_int add_add DiskIs Kept St now setSt owns_row owns_same)

def appSt (σ : St) (i : Nat) (x : List Int) : St := setSt σ i ((σ i).1, (σ i).2 ++ x.map Sum.inl)
theorem now_app (σ : St) (i : Nat) (x : List Int) : now (appSt σ i x) i = now σ i ++ x := by
  unfold now appSt
  rw [setSt_at, Disk.run_append, Disk.run_bytes]
theorem step_of' {W w : World} {own : Owns} {D : Nat} {σ σ' τ : St} {m m' : Nat} {f : FuncId} {args : Array Value} {v u : Value} (h : Live W w own D σ m) (hc : Calls Try.prog f args w fun e w' => e = .returned v ∧ Disk.Goes own D w w' σ' m') (hv : v = u) (hs : σ' = τ) :
    Calls Try.prog f args w fun e w' => ∃ x, e = .returned x ∧ x = u ∧ ∃ own', Live W w' own' D τ m' ∧ Fr own own' w w' :=
  hc.mono fun e w' ⟨he, hg⟩ => by
    subst hv
    subst hs
    exact ⟨v, he, rfl, h.goes hg⟩
theorem step_of {W w : World} {own : Owns} {D : Nat} {σ σ' τ : St} {m m' : Nat} {f : FuncId} {args : Array Value} {v u : Value} (h : Live W w.drew own D σ m) (hc : Calls Try.prog f args w.drew fun e w' => e = .returned v ∧ Disk.Goes own D w.drew w' σ' m') (hv : v = u) (hs : σ' = τ) :
    Calls Try.prog f args w.drew fun e w' => ∃ x, e = .returned x ∧ x = u ∧ ∃ own', Live W w' own' D τ m' ∧ Fr own own' w w' :=
  (step_of' h hc hv hs).mono fun e w' ⟨x, he, hx, own', hl, hf⟩ => ⟨x, he, hx, own', hl, (Fr.below (Below.refl _ _).drew).trans hf⟩
theorem call_val {P : Program} {f : FuncId} {args : Array Value} {w : World} {v : Value} {R : World → Prop} (hc : Calls P f args w fun e w' => e = .returned v ∧ R w') : Calls P f args w fun e w' => ∃ x, e = .returned x ∧ x = v ∧ R w' :=
  hc.mono fun e w' ⟨he, hr⟩ => ⟨v, he, rfl, hr⟩
theorem record_step (a : Option Addr) (n cap : Nat) (zs : List Int) (w : World) (hr : Row w a n zs) (h0 : a = none → cap = 0) (hn : n ≤ 65536) :
    Calls Try.prog 30 #[.slice a n cap] w fun e w' => ∃ v, e = .returned v ∧ ∃ a' cap', v = .slice a' (8 + n) cap' ∧ Row w' a' (8 + n) (rec zs) ∧ (a' = none → cap' = 0) ∧ Below w.heap.size w w' :=
  (record_any a n cap zs w hr h0 hn).mono fun e w' ⟨a', c', he, q⟩ => ⟨_, he, a', c', rfl, q⟩

set_option maxHeartbeats 2000000 in
theorem sync_any {W w : World} {own : Owns} {D L i : Nat} {σ : St} {m : Nat} (h : Live W w own D σ m) (hm : m < 4194304) (hl : LogIs own w L D i) (hi : i < 2) :
    Calls Try.prog 19 #[.pointer (Option.some ⟨L, 0, none⟩)] w fun e w' => e = .returned (.int .i64 0) ∧ ∃ own', Live W w' own' D (setSt σ i (now σ i, [])) (m + 1) ∧ Fr own own' w w' := by
  have kD : ∀ u, Kept own w u → u.cell? ⟨L, 0, none⟩ = Option.some (.pointer (Option.some ⟨D, 0, none⟩)) := fun u hu => (cell_block (p := ⟨L, 0, none⟩) (hu.block L hl.free.1 hl.free.2)).trans hl.disk
  have kF : ∀ u, Kept own w u → u.cell? ⟨L, 1, none⟩ = Option.some (.int .i64 i) := fun u hu => (cell_block (p := ⟨L, 1, none⟩) (hu.block L hl.free.1 hl.free.2)).trans hl.file
  have hd0 := h.later (Below.refl w.heap.size w).drew
  have hS : Kept own w w.drew := (Fr.below (Below.refl _ _).drew).kept
  have hfi : Disk.isFile (i : Int) = true := Disk.isFile_yes (by omega)
  have e0 : Disk.syncErr i = 0 := by rw [Disk.syncErr, hfi, if_pos rfl]
  have e1 : Disk.syncSt σ i = setSt σ i (now σ i, []) := by rw [Disk.syncSt, hfi, if_pos rfl, Int.toNat_natCast]
  go_enter Try.func19, Try.ntmps19
  go_wp2
  refine start_held (S := Kept own w) 10 rfl (by kernel_rfl) (hS) ?_
  simp only [Array.replicate_succ, Array.replicate_zero, List.push_toArray, List.nil_append, List.cons_append]
  refine take_held 0 (by assumption) rfl (by kernel_rfl) (by kernel_rfl) (by kernel_rfl) (fun _ _ _ h => h) (by kernel_rfl) (v := ?v0) ?y0 ?r0
  case y0 => (intro u hu; go_simp; try rfl)
  simp only [Act.put, List.setIfInBounds_toArray, List.set_cons_zero, List.set_cons_succ]
  refine take_held 1 (by assumption) rfl (by kernel_rfl) (by kernel_rfl) (by kernel_rfl) (fun _ _ _ h => h) (by kernel_rfl) (v := ?v1) ?y1 ?r1
  case y1 => (intro u hu; go_simp; try rfl)
  simp only [Act.put, List.setIfInBounds_toArray, List.set_cons_zero, List.set_cons_succ]
  refine take_held 2 (by assumption) rfl (by kernel_rfl) (by kernel_rfl) (by kernel_rfl) (fun _ _ _ h => h) (by kernel_rfl) (v := ?v2) ?y2 ?r2
  case y2 => (intro u hu; go_simp; try rfl)
  simp only [Act.put, List.setIfInBounds_toArray, List.set_cons_zero, List.set_cons_succ]
  refine take_held 3 (by assumption) rfl (by kernel_rfl) (by kernel_rfl) (by kernel_rfl) (fun _ _ _ h => h) (by kernel_rfl) (v := ?v3) ?y3 ?r3
  case y3 => (intro u hu; have := kD u hu; go_simp; try rfl)
  simp only [Act.put, List.setIfInBounds_toArray, List.set_cons_zero, List.set_cons_succ]
  refine take_held 4 (by assumption) rfl (by kernel_rfl) (by kernel_rfl) (by kernel_rfl) (fun _ _ _ h => h) (by kernel_rfl) (v := ?v4) ?y4 ?r4
  case y4 => (intro u hu; go_simp; try rfl)
  simp only [Act.put, List.setIfInBounds_toArray, List.set_cons_zero, List.set_cons_succ]
  refine take_held 5 (by assumption) rfl (by kernel_rfl) (by kernel_rfl) (by kernel_rfl) (fun _ _ _ h => h) (by kernel_rfl) (v := ?v5) ?y5 ?r5
  case y5 => (intro u hu; go_simp; try rfl)
  simp only [Act.put, List.setIfInBounds_toArray, List.set_cons_zero, List.set_cons_succ]
  refine take_held 6 (by assumption) rfl (by kernel_rfl) (by kernel_rfl) (by kernel_rfl) (fun _ _ _ h => h) (by kernel_rfl) (v := ?v6) ?y6 ?r6
  case y6 => (intro u hu; go_simp; try rfl)
  simp only [Act.put, List.setIfInBounds_toArray, List.set_cons_zero, List.set_cons_succ]
  refine take_held 7 (by assumption) rfl (by kernel_rfl) (by kernel_rfl) (by kernel_rfl) (fun _ _ _ h => h) (by kernel_rfl) (v := ?v7) ?y7 ?r7
  case y7 => (intro u hu; have := kF u hu; go_simp; try rfl)
  simp only [Act.put, List.setIfInBounds_toArray, List.set_cons_zero, List.set_cons_succ]
  refine call_held 8 rfl (by kernel_rfl) (by kernel_rfl) 25 #[.pointer (Option.some ⟨D, 0, none⟩), .int .i64 i] (by go_simp) _ (step_of hd0 (Disk.sync_any D w.drew own σ m hd0.disk hm i) (by rw [e0]) (by rw [e1])) ?_
  rintro v w1 ⟨rfl, own1, h1, f1⟩
  refine ⟨f1.kept, ?_⟩
  simp only [Act.put, List.setIfInBounds_toArray, List.set_cons_zero, List.set_cons_succ]
  have hS1 := f1.kept
  refine take_held 9 (by assumption) rfl (by kernel_rfl) (by kernel_rfl) (by kernel_rfl) (fun _ _ _ h => h) (by kernel_rfl) (v := ?v8) ?y8 ?r8
  case y8 => (intro u hu; go_simp; try rfl)
  simp only [Act.put, List.setIfInBounds_toArray, List.set_cons_zero, List.set_cons_succ]
  refine done_held (by kernel_rfl) ?_ _
  go_wp2
  go_ret
  exact ⟨rfl, own1, h1, f1⟩

set_option maxHeartbeats 2000000 in
theorem size_any {W w : World} {own : Owns} {D L i : Nat} {σ : St} {m : Nat} (h : Live W w own D σ m) (hm : m < 4194304) (hl : LogIs own w L D i) (hi : i < 2) :
    Calls Try.prog 20 #[.pointer (Option.some ⟨L, 0, none⟩)] w fun e w' => e = .returned (.int .i64 (now σ i).length) ∧ Below w.heap.size w w' := by
  have kD : ∀ u, Kept own w u → u.cell? ⟨L, 0, none⟩ = Option.some (.pointer (Option.some ⟨D, 0, none⟩)) := fun u hu => (cell_block (p := ⟨L, 0, none⟩) (hu.block L hl.free.1 hl.free.2)).trans hl.disk
  have kF : ∀ u, Kept own w u → u.cell? ⟨L, 1, none⟩ = Option.some (.int .i64 i) := fun u hu => (cell_block (p := ⟨L, 1, none⟩) (hu.block L hl.free.1 hl.free.2)).trans hl.file
  have hd0 := h.later (Below.refl w.heap.size w).drew
  have hS : Kept own w w.drew := (Fr.below (Below.refl _ _).drew).kept
  have e0 : Disk.readOf σ i = now σ i := by rw [Disk.readOf, Disk.isFile_yes (by omega), if_pos rfl, Int.toNat_natCast]
  have cs := Disk.size_any D w.drew own σ m hd0.disk i
  rw [e0] at cs
  go_enter Try.func20, Try.ntmps20
  go_wp2
  refine start_held (S := Kept own w) 10 rfl (by kernel_rfl) (hS) ?_
  simp only [Array.replicate_succ, Array.replicate_zero, List.push_toArray, List.nil_append, List.cons_append]
  refine take_held 0 (by assumption) rfl (by kernel_rfl) (by kernel_rfl) (by kernel_rfl) (fun _ _ _ h => h) (by kernel_rfl) (v := ?v18) ?y18 ?r18
  case y18 => (intro u hu; go_simp; try rfl)
  simp only [Act.put, List.setIfInBounds_toArray, List.set_cons_zero, List.set_cons_succ]
  refine take_held 1 (by assumption) rfl (by kernel_rfl) (by kernel_rfl) (by kernel_rfl) (fun _ _ _ h => h) (by kernel_rfl) (v := ?v19) ?y19 ?r19
  case y19 => (intro u hu; go_simp; try rfl)
  simp only [Act.put, List.setIfInBounds_toArray, List.set_cons_zero, List.set_cons_succ]
  refine take_held 2 (by assumption) rfl (by kernel_rfl) (by kernel_rfl) (by kernel_rfl) (fun _ _ _ h => h) (by kernel_rfl) (v := ?v20) ?y20 ?r20
  case y20 => (intro u hu; go_simp; try rfl)
  simp only [Act.put, List.setIfInBounds_toArray, List.set_cons_zero, List.set_cons_succ]
  refine take_held 3 (by assumption) rfl (by kernel_rfl) (by kernel_rfl) (by kernel_rfl) (fun _ _ _ h => h) (by kernel_rfl) (v := ?v21) ?y21 ?r21
  case y21 => (intro u hu; have := kD u hu; go_simp; try rfl)
  simp only [Act.put, List.setIfInBounds_toArray, List.set_cons_zero, List.set_cons_succ]
  refine take_held 4 (by assumption) rfl (by kernel_rfl) (by kernel_rfl) (by kernel_rfl) (fun _ _ _ h => h) (by kernel_rfl) (v := ?v22) ?y22 ?r22
  case y22 => (intro u hu; go_simp; try rfl)
  simp only [Act.put, List.setIfInBounds_toArray, List.set_cons_zero, List.set_cons_succ]
  refine take_held 5 (by assumption) rfl (by kernel_rfl) (by kernel_rfl) (by kernel_rfl) (fun _ _ _ h => h) (by kernel_rfl) (v := ?v23) ?y23 ?r23
  case y23 => (intro u hu; go_simp; try rfl)
  simp only [Act.put, List.setIfInBounds_toArray, List.set_cons_zero, List.set_cons_succ]
  refine take_held 6 (by assumption) rfl (by kernel_rfl) (by kernel_rfl) (by kernel_rfl) (fun _ _ _ h => h) (by kernel_rfl) (v := ?v24) ?y24 ?r24
  case y24 => (intro u hu; go_simp; try rfl)
  simp only [Act.put, List.setIfInBounds_toArray, List.set_cons_zero, List.set_cons_succ]
  refine take_held 7 (by assumption) rfl (by kernel_rfl) (by kernel_rfl) (by kernel_rfl) (fun _ _ _ h => h) (by kernel_rfl) (v := ?v25) ?y25 ?r25
  case y25 => (intro u hu; have := kF u hu; go_simp; try rfl)
  simp only [Act.put, List.setIfInBounds_toArray, List.set_cons_zero, List.set_cons_succ]
  refine call_held 8 rfl (by kernel_rfl) (by kernel_rfl) 15 #[.pointer (Option.some ⟨D, 0, none⟩), .int .i64 i] (by go_simp) _ (call_val cs) ?_
  rintro v w1 ⟨rfl, rfl⟩
  refine ⟨hS, ?_⟩
  simp only [Act.put, List.setIfInBounds_toArray, List.set_cons_zero, List.set_cons_succ]
  refine take_held 9 (by assumption) rfl (by kernel_rfl) (by kernel_rfl) (by kernel_rfl) (fun _ _ _ h => h) (by kernel_rfl) (v := ?v26) ?y26 ?r26
  case y26 => (intro u hu; go_simp; try rfl)
  simp only [Act.put, List.setIfInBounds_toArray, List.set_cons_zero, List.set_cons_succ]
  refine done_held (by kernel_rfl) ?_ _
  go_wp2
  go_ret
  exact ⟨rfl, (Below.refl _ _).drew⟩

set_option maxHeartbeats 2000000 in
theorem append_any {W w : World} {own : Owns} {D L i : Nat} {σ : St} {m : Nat} (h : Live W w own D σ m) (hm : m < 4194304) (hl : LogIs own w L D i) (hi : i < 2) (a : Option Addr) (n cap : Nat) (zs : List Int) (hr : Row w a n zs) (h0 : a = none → cap = 0) (h1 : 1 ≤ n) (h2 : n ≤ 65536) (hb : (now σ i).length + (8 + n) ≤ 16777216) :
    Calls Try.prog 14 #[.pointer (Option.some ⟨L, 0, none⟩), .slice a n cap] w fun e w' => e = .returned (.int .i64 0) ∧ ∃ own', Live W w' own' D (appSt σ i (rec zs)) (m + 1) ∧ Fr own own' w w' := by
  have kD : ∀ u, Kept own w u → u.cell? ⟨L, 0, none⟩ = Option.some (.pointer (Option.some ⟨D, 0, none⟩)) := fun u hu => (cell_block (p := ⟨L, 0, none⟩) (hu.block L hl.free.1 hl.free.2)).trans hl.disk
  have kF : ∀ u, Kept own w u → u.cell? ⟨L, 1, none⟩ = Option.some (.int .i64 i) := fun u hu => (cell_block (p := ⟨L, 1, none⟩) (hu.block L hl.free.1 hl.free.2)).trans hl.file
  have hd0 := h.later (Below.refl w.heap.size w).drew
  have hS : Kept own w w.drew := (Fr.below (Below.refl _ _).drew).kept
  have cm := mayBe_any (n : Int) w
  rw [decide_eq_true (by omega)] at cm
  have hfi : Disk.isFile (i : Int) = true := Disk.isFile_yes (by omega)
  have e0 : Disk.appErr σ i (8 + n) = 0 := by
    unfold Disk.appErr
    rw [hfi, if_pos rfl, Int.toNat_natCast, if_neg (by omega)]
  have e1 : Disk.appSt σ i (rec zs) = appSt σ i (rec zs) := by
    unfold Disk.appSt appSt
    rw [rec_length, hr.len, e0, if_pos rfl, Int.toNat_natCast]
  have cr := record_step a n cap zs w.drew (hr.after (Below.refl _ _).drew) h0 h2
  go_enter Try.func14, Try.ntmps14
  go_wp2_with (go_at_call 29; refine cm.mono ?_; rintro e w9 ⟨rfl, hw9⟩; rw [hw9])
  refine start_held (S := Kept own w) 12 rfl (by kernel_rfl) (hS) ?_
  simp only [Array.replicate_succ, Array.replicate_zero, List.push_toArray, List.nil_append, List.cons_append]
  refine take_held 0 (by assumption) rfl (by kernel_rfl) (by kernel_rfl) (by kernel_rfl) (fun _ _ _ h => h) (by kernel_rfl) (v := ?v27) ?y27 ?r27
  case y27 => (intro u hu; go_simp; try rfl)
  simp only [Act.put, List.setIfInBounds_toArray, List.set_cons_zero, List.set_cons_succ]
  refine take_held 1 (by assumption) rfl (by kernel_rfl) (by kernel_rfl) (by kernel_rfl) (fun _ _ _ h => h) (by kernel_rfl) (v := ?v28) ?y28 ?r28
  case y28 => (intro u hu; go_simp; try rfl)
  simp only [Act.put, List.setIfInBounds_toArray, List.set_cons_zero, List.set_cons_succ]
  refine take_held 2 (by assumption) rfl (by kernel_rfl) (by kernel_rfl) (by kernel_rfl) (fun _ _ _ h => h) (by kernel_rfl) (v := ?v29) ?y29 ?r29
  case y29 => (intro u hu; go_simp; try rfl)
  simp only [Act.put, List.setIfInBounds_toArray, List.set_cons_zero, List.set_cons_succ]
  refine take_held 3 (by assumption) rfl (by kernel_rfl) (by kernel_rfl) (by kernel_rfl) (fun _ _ _ h => h) (by kernel_rfl) (v := ?v30) ?y30 ?r30
  case y30 => (intro u hu; have := kD u hu; go_simp; try rfl)
  simp only [Act.put, List.setIfInBounds_toArray, List.set_cons_zero, List.set_cons_succ]
  refine take_held 4 (by assumption) rfl (by kernel_rfl) (by kernel_rfl) (by kernel_rfl) (fun _ _ _ h => h) (by kernel_rfl) (v := ?v31) ?y31 ?r31
  case y31 => (intro u hu; go_simp; try rfl)
  simp only [Act.put, List.setIfInBounds_toArray, List.set_cons_zero, List.set_cons_succ]
  refine take_held 5 (by assumption) rfl (by kernel_rfl) (by kernel_rfl) (by kernel_rfl) (fun _ _ _ h => h) (by kernel_rfl) (v := ?v32) ?y32 ?r32
  case y32 => (intro u hu; go_simp; try rfl)
  simp only [Act.put, List.setIfInBounds_toArray, List.set_cons_zero, List.set_cons_succ]
  refine take_held 6 (by assumption) rfl (by kernel_rfl) (by kernel_rfl) (by kernel_rfl) (fun _ _ _ h => h) (by kernel_rfl) (v := ?v33) ?y33 ?r33
  case y33 => (intro u hu; go_simp; try rfl)
  simp only [Act.put, List.setIfInBounds_toArray, List.set_cons_zero, List.set_cons_succ]
  refine take_held 7 (by assumption) rfl (by kernel_rfl) (by kernel_rfl) (by kernel_rfl) (fun _ _ _ h => h) (by kernel_rfl) (v := ?v34) ?y34 ?r34
  case y34 => (intro u hu; have := kF u hu; go_simp; try rfl)
  simp only [Act.put, List.setIfInBounds_toArray, List.set_cons_zero, List.set_cons_succ]
  refine take_held 8 (by assumption) rfl (by kernel_rfl) (by kernel_rfl) (by kernel_rfl) (fun _ _ _ h => h) (by kernel_rfl) (v := ?v35) ?y35 ?r35
  case y35 => (intro u hu; go_simp; try rfl)
  simp only [Act.put, List.setIfInBounds_toArray, List.set_cons_zero, List.set_cons_succ]
  refine call_held 9 rfl (by kernel_rfl) (by kernel_rfl) 30 #[.slice a n cap] (by go_simp) _ cr ?_
  rintro v w1 ⟨a1, c1, rfl, r1, n1, b1⟩
  have k1 : Fr own own w w1 := (Fr.below (Below.refl _ _).drew).trans (Fr.below b1)
  have l1 := hd0.later b1
  refine ⟨k1.kept, ?_⟩
  simp only [Act.put, List.setIfInBounds_toArray, List.set_cons_zero, List.set_cons_succ]
  have hS1 := k1.kept
  refine call_held 10 rfl (by kernel_rfl) (by kernel_rfl) 21 #[.pointer (Option.some ⟨D, 0, none⟩), .int .i64 i, .slice a1 (8 + n) c1] (by go_simp) _ (step_of' l1 (Disk.append_any D w1 own σ m l1.disk hm i a1 (8 + n) c1 (rec zs) r1 n1 (by omega)) (by rw [e0]) (by rw [e1])) ?_
  rintro v w2 ⟨rfl, own2, h2', f2⟩
  refine ⟨(k1.trans f2).kept, ?_⟩
  simp only [Act.put, List.setIfInBounds_toArray, List.set_cons_zero, List.set_cons_succ]
  have hS2 := (k1.trans f2).kept
  refine take_held 11 (by assumption) rfl (by kernel_rfl) (by kernel_rfl) (by kernel_rfl) (fun _ _ _ h => h) (by kernel_rfl) (v := ?v36) ?y36 ?r36
  case y36 => (intro u hu; go_simp; try rfl)
  simp only [Act.put, List.setIfInBounds_toArray, List.set_cons_zero, List.set_cons_succ]
  refine done_held (by kernel_rfl) ?_ _
  go_wp2
  go_ret
  exact ⟨rfl, own2, h2', k1.trans f2⟩

set_option maxHeartbeats 2000000 in
theorem append_no {W w : World} {own : Owns} {D L i : Nat} {σ : St} {m : Nat} (h : Live W w own D σ m) (hm : m < 4194304) (hl : LogIs own w L D i) (hi : i < 2) (a : Option Addr) (n cap : Nat) (hn : n = 0 ∨ 65536 < n) (hnm : n ≤ 9223372036854775807) :
    Calls Try.prog 14 #[.pointer (Option.some ⟨L, 0, none⟩), .slice a n cap] w fun e w' => e = .returned (.int .i64 1) ∧ w' = w := by
  have cm := mayBe_any (n : Int) w
  rw [decide_eq_false (by omega)] at cm
  go_enter Try.func14, Try.ntmps14
  go_wp2_with (go_at_call 29; refine cm.mono ?_; rintro e w9 ⟨rfl, hw9⟩; rw [hw9])
  go_ret
  exact ⟨rfl, rfl⟩
end Go.Proofs.Ytnehkjabhmhijaa.Wal
