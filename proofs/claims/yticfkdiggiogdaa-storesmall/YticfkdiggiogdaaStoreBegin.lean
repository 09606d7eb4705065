/-
  begin and Check of package store.
-/
import Derived.Test.YticfkdiggiogdaaStoreCalls
namespace Go.Proofs.Yticfkdiggiogdaa.Store
set_option linter.unusedVariables false
set_option linter.unusedSimpArgs false
open Go Go.RowKit Go.Shelf Go.Proofs
open Go.Proofs.Yticfkdiggiogdaa.Disk (Row getD_in ret_int add_add DiskIs Kept St now setSt owns_row owns_same)
open Go.Proofs.Yticfkdiggiogdaa.Wal (start_held take_held call_held read_held done_held Owns Fr Live Free LogIs cell_block rec setSt_at setSt_two appSt now_app)
open Go.Proofs.Yticfkdiggiogdaa.Codec (num I64 Made Mine)

/- A first head: 1, 0 and no snapshot. -/
def firstHead : List Int := (num 1 ++ num 0) ++ []
theorem firstHead_length : firstHead.length = 2 := by decide
def beganSt (σ : St) : St := layTo (setSt (setSt σ 0 ([], [])) 1 ([], [])) 0 firstHead
set_option maxRecDepth 100000 in
set_option maxHeartbeats 4000000 in
theorem begin_any {W w : World} {own : Owns} {D S : Nat} {L : Nat → Nat} {σ : St} {m c : Nat} {g f n : Int} (h : StoreIs W w own D S L σ m c g f n) (hm : m + 6 < 4194304) :
    Calls Try.prog 53 #[.pointer (Option.some ⟨S, 0, none⟩)] w fun e w' => e = .returned (.tuple #[]) ∧ ∃ own', StoreIs W w' own' D S L (beganSt σ) (m + 6) 0 1 0 0 ∧ SFr S own own' w w' := by
  have h0 := h.cell 0
  have h1 := h.cell 1
  simp only [cellsOf, List.getElem?_toArray, List.getElem?_cons_zero, List.getElem?_cons_succ] at h0 h1
  go_enter Try.func53, Try.ntmps53
  go_wp2_with fail
  clear h0 h1
  go_loopw [8] (fun j wr => Hid ((j = .int .i64 0 ∧ ∃ own', StoreIs W wr own' D S L σ m c g f n ∧ SFr S own own' w wr) ∨ (j = .int .i64 1 ∧ ∃ own', StoreIs W wr own' D S L (setSt σ 0 ([], [])) (m + 2) c g f n ∧ SFr S own own' w wr) ∨ (j = .int .i64 2 ∧ ∃ own', StoreIs W wr own' D S L (setSt (setSt σ 0 ([], [])) 1 ([], [])) (m + 4) c g f n ∧ SFr S own own' w wr))) (fun j _ => 2 - (intOf j).toNat)
  case atStart => exact Or.inl ⟨rfl, own, h, SFr.refl _ _ _⟩
  case round =>
    rcases hrel.out with ⟨rfl, own1, h1, f1⟩ | ⟨rfl, own1, h1, f1⟩ | ⟨rfl, own1, h1, f1⟩
    · have c1 := empty_any h1.live (by omega) (h1.log 0 (by decide)) (by decide)
      clear hrel
      go_wp2_with (first | (refine wpList_index rfl 95 (.tmp 7) (.tmp 8) rfl _ 0 rfl rfl _ (run_index0 _ _ _) ?_) | (go_at_call 58; refine c1.mono ?_; rintro e w2 ⟨rfl, own2, h2, f2⟩))
      go_roundw
      case rel => exact Or.inr (Or.inl ⟨rfl, own2, h1.fr h2 f2, f1.trans (SFr.of S f2)⟩)
      case measure => decide
    · have c1 := empty_any h1.live (by omega) (h1.log 1 (by decide)) (by decide)
      clear hrel
      go_wp2_with (first | (refine wpList_index rfl 95 (.tmp 7) (.tmp 8) rfl _ 1 rfl rfl _ (run_index1 _ _ _) ?_) | (go_at_call 58; refine c1.mono ?_; rintro e w2 ⟨rfl, own2, h2, f2⟩))
      go_roundw
      case rel => exact Or.inr (Or.inr ⟨rfl, own2, h1.fr h2 f2, f1.trans (SFr.of S f2)⟩)
      case measure => decide
    · have e0 : now (setSt (setSt σ 0 ([], [])) 1 ([], [])) 0 = [] := rfl
      have c1 := lay_any h1 (by omega) 0 (by decide) 1 0 none 0 0 [] ⟨rfl, Codec.Bytes.nil, fun i hi => by omega⟩ (fun _ => rfl) ⟨by decide, by decide⟩ ⟨by decide, by decide⟩ (by decide) (by rw [e0]; decide)
      clear hrel e0
      go_wp2_with (go_at_call 65; refine c1.mono ?_; rintro e w2 ⟨rfl, own2, h2, f2⟩)
      go_end0
      exact ⟨rfl, own2, h2, f1.trans f2⟩

/- The last operation, a call. -/
theorem last_held {P : Program} {S : World → Prop} {Q : Exit → Act → World → Prop} {md : Region.Mode} {l : List Oper} (i : Nat) {o : Oper} {fuel : Nat} {listed : Array Bool} {a : Act} {w : World} (hi : Wal.nth l i = Option.some o)
    (hr : Region.ready md l.toArray listed = [i]) (hw : Region.wanted o (yielded l.toArray a.tmps) = true) (f : FuncId) (vals : Array Value) (hrun : (execOp a.eval o).run P w = .ok (.enter f vals) w) (R : Value → World → Prop)
    (hc : Calls P f vals w fun e w' => ∃ v, e = .returned v ∧ R v w') (hd : Region.ready md l.toArray (listed.setIfInBounds i true) = []) (hS : ∀ v w', R v w' → S w') (h : ∀ v w', R v w' → Q .normal (a.put o.dst v) w') : wpAnyH P md l.toArray Q S (fuel + 1) listed a w := by
  refine wpAnyH_ready hr (by simp) (AllReadyH.cons ((Wal.nth_eq l i).trans hi) ?_ AllReadyH.nil)
  intro K' hK
  rw [if_pos hw]
  unfold Oper.wp
  rw [hrun]
  refine Calls.mono hc ?_
  rintro e w' ⟨v, rfl, hR⟩
  exact hK.out _ _ (hS v w' hR) fun _ => done_held hd (h v w' hR) _
theorem below_row {B g : Nat} {w0 w : World} (hb : Below B w0 w) (hBg : B ≤ g) (cs : Array Value) : Below B w0 (w.setRow g cs) :=
  ⟨hb.os, hb.tape, hb.output, by rw [size_setRow]; exact hb.size, fun k hk => by rw [setRow_other _ _ _ _ (by omega)]; exact hb.block k hk⟩
theorem row_keep {w w' : World} {a : Option Addr} {n : Nat} {zs : List Int} (h : Codec.Row w a n zs) (hb : ∀ x, a = Option.some x → n ≠ 0 → w'.heap[x.block]? = w.heap[x.block]?) : Codec.Row w' a n zs := by
  refine ⟨h.len, h.small, fun i hi => ?_⟩
  obtain ⟨x, hx, hc⟩ := h.cell i hi
  exact ⟨x, hx, (cell_block (by rw [Codec.block_add]; exact hb x hx (by omega))).trans hc⟩
def headOf (g n : Int) (zs : List Int) : List Int := (num g ++ num n) ++ zs
def checkedSt (σ : St) (c : Nat) (x : List Int) : St := setSt (setSt σ (1 - c) (rec x, [])) c ([], [])
theorem lay_erased (σ : St) (i : Nat) (p : List Int) (us : List Disk.U) (x : List Int) : layTo (setSt σ i (p, us ++ [.inr 0])) i x = setSt σ i (rec x, []) := by
  have e1 : now (setSt σ i (p, us ++ [.inr 0])) i = [] := by unfold now; rw [setSt_at, Disk.run_append, Disk.run_cut]; rfl
  unfold layTo
  rw [e1, setSt_two, List.nil_append]

set_option maxRecDepth 100000 in
set_option maxHeartbeats 4000000 in
theorem check_arg {W w : World} {own : Owns} {D S : Nat} {L : Nat → Nat} {σ : St} {m c : Nat} {g f n : Int} (h : StoreIs W w own D S L σ m c g f n) (hm : m + 5 < 4194304) (a : Option Addr) (l cap : Nat) (zs : List Int) (hr : Codec.Row w a l zs) (h0 : a = none → cap = 0) (hl : l ≤ 140737488350000) (g0 : 0 ≤ g) (g1 : g < 9223372036854775807) (n0 : 0 ≤ n) (n1 : n ≤ 9223372036854775807) (h2 : 65536 < (headOf (g + 1) n zs).length) :
    Calls Try.prog 25 #[.pointer (Option.some ⟨S, 0, none⟩), .slice a l cap] w fun e w' => e = .returned (.int .i64 1) ∧ Below w.heap.size w w' := by
  obtain ⟨IH, hIH⟩ : ∃ I : World → Prop, I = fun u => u.heap[S]? = Option.some (.cells (cellsOf L c g f n) 97 (0, 0)) := ⟨_, rfl⟩
  have k3 : ∀ u, IH u → u.cell? ⟨S, 3, none⟩ = Option.some (.int .i64 g) := fun u hu => by rw [hIH] at hu; exact cell_of_row u _ 3 _ _ _ hu
  have k5 : ∀ u, IH u → u.cell? ⟨S, 5, none⟩ = Option.some (.int .i64 n) := fun u hu => by rw [hIH] at hu; exact cell_of_row u _ 5 _ _ _ hu
  have kH : ∀ u u', IH u → S < u.heap.size → Below u.heap.size u u' → IH u' := fun u u' hu hs hb => by rw [hIH] at hu ⊢; exact (hb.block _ hs).trans hu
  have hlt := h.free.1
  have hno := h.free.2
  have hc := h.two
  have lr := hr.len
  have lg := Codec.num_len (g + 1)
  have ln := Codec.num_len n
  have hS : IH w.drew := by rw [hIH]; exact h.row
  have g2 : g + 1 ≤ 9223372036854775807 := by omega
  have gw : Hid (IntKind.i64.wrap (g + 1) = g + 1) := by show IntKind.i64.wrap (g + 1) = g + 1; rw [IntKind.wrap_i64]; omega
  have hgI : I64 (g + 1) := ⟨by omega, by omega⟩
  have hnI : I64 n := ⟨by omega, by omega⟩
  have bA : Below w.heap.size w (w.drew.alloc (.cells #[.int .i64 0, .int .i64 0, .slice none 0 0] 102)) := (Below.refl w.heap.size w).drew.alloc (Nat.le_refl _) _
  have eA : (w.drew.alloc (.cells #[.int .i64 0, .int .i64 0, .slice none 0 0] 102)).heap[w.heap.size]? = Option.some (.cells #[.int .i64 0, .int .i64 0, .slice none 0 0] 102 (0, 0)) := heap_alloc_new w.drew _
  have hS1 : IH (w.drew.alloc (.cells #[.int .i64 0, .int .i64 0, .slice none 0 0] 102)) := kH w.drew _ hS hlt ((Below.refl w.drew.heap.size w.drew).alloc (Nat.le_refl _) _)
  have sA : w.heap.size < (w.drew.alloc (.cells #[.int .i64 0, .int .i64 0, .slice none 0 0] 102)).heap.size := by simp
  have hS2 : IH ((w.drew.alloc (.cells #[.int .i64 0, .int .i64 0, .slice none 0 0] 102)).setRow w.heap.size #[.int .i64 (g + 1), .int .i64 n, .slice a l cap]) := by rw [hIH] at hS1 ⊢; exact (setRow_other _ _ _ _ (by omega)).trans hS1
  have hst := run_storeVar_row (P := Try.prog) (w.drew.alloc (.cells #[.int .i64 0, .int .i64 0, .slice none 0 0] 102)) w.heap.size 102 102 #[.int .i64 0, .int .i64 0, .slice none 0 0] #[.int .i64 (g + 1), .int .i64 n, .slice a l cap] eA wsizeHead rfl (by simp [Value.oneCell'])
  have eB := setRow_heap (w.drew.alloc (.cells #[.int .i64 0, .int .i64 0, .slice none 0 0] 102)) w.heap.size #[.int .i64 0, .int .i64 0, .slice none 0 0] #[.int .i64 (g + 1), .int .i64 n, .slice a l cap] 102 (0, 0) eA
  have bB : Below w.heap.size w ((w.drew.alloc (.cells #[.int .i64 0, .int .i64 0, .slice none 0 0] 102)).setRow w.heap.size #[.int .i64 (g + 1), .int .i64 n, .slice a l cap]) := below_row bA (Nat.le_refl _) _
  have sB : w.heap.size < ((w.drew.alloc (.cells #[.int .i64 0, .int .i64 0, .slice none 0 0] 102)).setRow w.heap.size #[.int .i64 (g + 1), .int .i64 n, .slice a l cap]).heap.size := by simp
  have cB := bytes_any _ (g + 1) n a l cap zs (hr.after bB) h0 hgI hnI (by omega)
  have S2 := h.later bB
  change Calls Try.prog _ _ _ (Made (headOf (g + 1) n zs) _) at cB
  have nH : own w.heap.size = none := by
    by_cases hn : own w.heap.size = none
    · exact hn
    · have := h.live.disk.old _ hn; omega
  go_enter Try.func25, Try.ntmps25
  go_wp2
  refine start_held (S := IH) 13 rfl (by kernel_rfl) (hS) ?_
  simp only [Array.replicate_succ, Array.replicate_zero, List.push_toArray, List.nil_append, List.cons_append]
  refine take_held 0 (by assumption) rfl (by kernel_rfl) (by kernel_rfl) (by kernel_rfl) (fun _ _ _ h => h) (by kernel_rfl) (v := ?v0) ?y0 ?r0
  case y0 => (intro u hu; go_simp; try rfl)
  simp only [Act.put, List.setIfInBounds_toArray, List.set_cons_zero, List.set_cons_succ]
  refine take_held 1 (by assumption) rfl (by kernel_rfl) (by kernel_rfl) (by kernel_rfl) (fun _ _ _ h => h) (by kernel_rfl) (v := ?v1) ?y1 ?r1
  case y1 => (intro u hu; go_simp; try rfl)
  simp only [Act.put, List.setIfInBounds_toArray, List.set_cons_zero, List.set_cons_succ]
  refine take_held 2 (by assumption) rfl (by kernel_rfl) (by kernel_rfl) (by kernel_rfl) (fun _ _ _ h => h) (by kernel_rfl) (v := ?v2) ?y2 ?r2
  case y2 => (intro u hu; go_simp; try rfl)
  simp only [Act.put, List.setIfInBounds_toArray, List.set_cons_zero, List.set_cons_succ]
  refine take_held 3 (by assumption) rfl (by kernel_rfl) (by kernel_rfl) (by kernel_rfl) (fun _ _ _ h => h) (by kernel_rfl) (v := ?v3) ?y3 ?r3
  case y3 => (intro u hu; have := k3 u hu; go_simp; try rfl)
  simp only [Act.put, List.setIfInBounds_toArray, List.set_cons_zero, List.set_cons_succ]
  refine take_held 4 (by assumption) rfl (by kernel_rfl) (by kernel_rfl) (by kernel_rfl) (fun _ _ _ h => h) (by kernel_rfl) (v := .int .i64 (g + 1)) ?y4 ?r4
  case y4 => (intro u hu; go_simp; try exact gw.out)
  simp only [Act.put, List.setIfInBounds_toArray, List.set_cons_zero, List.set_cons_succ]
  refine take_held 5 (by assumption) rfl (by kernel_rfl) (by kernel_rfl) (by kernel_rfl) (fun _ _ _ h => h) (by kernel_rfl) (v := ?v5) ?y5 ?r5
  case y5 => (intro u hu; go_simp; try rfl)
  simp only [Act.put, List.setIfInBounds_toArray, List.set_cons_zero, List.set_cons_succ]
  refine take_held 6 (by assumption) rfl (by kernel_rfl) (by kernel_rfl) (by kernel_rfl) (fun _ _ _ h => h) (by kernel_rfl) (v := ?v6) ?y6 ?r6
  case y6 => (intro u hu; go_simp; try rfl)
  simp only [Act.put, List.setIfInBounds_toArray, List.set_cons_zero, List.set_cons_succ]
  refine take_held 7 (by assumption) rfl (by kernel_rfl) (by kernel_rfl) (by kernel_rfl) (fun _ _ _ h => h) (by kernel_rfl) (v := ?v7) ?y7 ?r7
  case y7 => (intro u hu; go_simp; try rfl)
  simp only [Act.put, List.setIfInBounds_toArray, List.set_cons_zero, List.set_cons_succ]
  refine take_held 8 (by assumption) rfl (by kernel_rfl) (by kernel_rfl) (by kernel_rfl) (fun _ _ _ h => h) (by kernel_rfl) (v := ?v8) ?y8 ?r8
  case y8 => (intro u hu; have := k5 u hu; go_simp; try rfl)
  simp only [Act.put, List.setIfInBounds_toArray, List.set_cons_zero, List.set_cons_succ]
  refine take_held 9 (by assumption) rfl (by kernel_rfl) (by kernel_rfl) (by kernel_rfl) (fun _ _ _ h => h) (by kernel_rfl) (v := ?v9) ?y9 ?r9
  case y9 => (intro u hu; go_simp; try rfl)
  simp only [Act.put, List.setIfInBounds_toArray, List.set_cons_zero, List.set_cons_succ]
  refine take_held 10 (by assumption) rfl (by kernel_rfl) (by kernel_rfl) (by kernel_rfl) (fun _ _ _ h => h) (by kernel_rfl) (v := .agg #[.int .i64 (g + 1), .int .i64 n, .slice a l cap]) ?y10 ?r10
  case y10 => (intro u hu; go_simp; try rfl)
  simp only [Act.put, List.setIfInBounds_toArray, List.set_cons_zero, List.set_cons_succ]
  refine value_held 11 rfl (by kernel_rfl) (by kernel_rfl) (.pointer (Option.some ⟨w.heap.size, 0, none⟩)) (w.drew.alloc (.cells #[.int .i64 0, .int .i64 0, .slice none 0 0] 102)) (by go_simp; try rfl) hS1 ?_
  simp only [Act.put, List.setIfInBounds_toArray, List.set_cons_zero, List.set_cons_succ]
  refine store_held 12 rfl (by kernel_rfl) (by kernel_rfl) ((w.drew.alloc (.cells #[.int .i64 0, .int .i64 0, .slice none 0 0] 102)).setRow w.heap.size #[.int .i64 (g + 1), .int .i64 n, .slice a l cap]) (run_store_op 102 (.tmp 5) (.tmp 16) rfl w.heap.size _ rfl rfl hst) hS2 ?_
  simp only [Act.put, List.setIfInBounds_toArray, List.set_cons_zero, List.set_cons_succ]
  refine done_held (by kernel_rfl) ?_ _
  clear eA hst hS1 bA sA
  generalize (w.drew.alloc (.cells #[.int .i64 0, .int .i64 0, .slice none 0 0] 102)).setRow w.heap.size #[.int .i64 (g + 1), .int .i64 n, .slice a l cap] = w2 at *
  generalize hX : headOf (g + 1) n zs = X at *
  have xg : (65536 : Int) < X.length := by omega
  have xm : X.length = (num (g + 1)).length + (num n).length + l := by rw [← hX]; unfold headOf; simp only [List.length_append]; omega
  go_wp2_with (first
    | (go_at_call 63; refine cB.mono ?_; rintro e w3 ⟨v3, rfl, m3, b3, n3⟩; obtain ⟨a3, d3, rfl, r3, z3, l3, q3⟩ := m3.form)
    | (refine wpList_load_row rfl 102 (.tmp 5) rfl w.heap.size rfl 102 #[.int .i64 (g + 1), .int .i64 n, .slice a l cap] (0, 0) _ eB Try.underlying102 rfl wsizeHead ?_))
  go_ret
  exact ⟨rfl, Codec.bcat bB b3 (Nat.le_refl _)⟩

set_option maxRecDepth 100000 in
set_option maxHeartbeats 4000000 in
theorem check_ok {W w : World} {own : Owns} {D S : Nat} {L : Nat → Nat} {σ : St} {m c : Nat} {g f n : Int} (h : StoreIs W w own D S L σ m c g f n) (hm : m + 5 < 4194304) (a : Option Addr) (l cap : Nat) (zs : List Int) (hr : Codec.Row w a l zs) (h0 : a = none → cap = 0) (hl : l ≤ 140737488350000) (g0 : 0 ≤ g) (g1 : g < 9223372036854775807) (n0 : 0 ≤ n) (n1 : n ≤ 9223372036854775807) (h2 : (headOf (g + 1) n zs).length ≤ 65536) (ha : ∀ x, a = Option.some x → l ≠ 0 → own x.block = none) :
    Calls Try.prog 25 #[.pointer (Option.some ⟨S, 0, none⟩), .slice a l cap] w fun e w' => e = .returned (.int .i64 0) ∧ ∃ own', StoreIs W w' own' D S L (checkedSt σ c (headOf (g + 1) n zs)) (m + 5) (1 - c) (g + 1) n n ∧ SFr S own own' w w' := by
  obtain ⟨IH, hIH⟩ : ∃ I : World → Prop, I = fun u => u.heap[S]? = Option.some (.cells (cellsOf L c g f n) 97 (0, 0)) := ⟨_, rfl⟩
  have k3 : ∀ u, IH u → u.cell? ⟨S, 3, none⟩ = Option.some (.int .i64 g) := fun u hu => by rw [hIH] at hu; exact cell_of_row u _ 3 _ _ _ hu
  have k5 : ∀ u, IH u → u.cell? ⟨S, 5, none⟩ = Option.some (.int .i64 n) := fun u hu => by rw [hIH] at hu; exact cell_of_row u _ 5 _ _ _ hu
  have kH : ∀ u u', IH u → S < u.heap.size → Below u.heap.size u u' → IH u' := fun u u' hu hs hb => by rw [hIH] at hu ⊢; exact (hb.block _ hs).trans hu
  have hlt := h.free.1
  have hno := h.free.2
  have hc := h.two
  have lr := hr.len
  have lg := Codec.num_len (g + 1)
  have ln := Codec.num_len n
  have hS : IH w.drew := by rw [hIH]; exact h.row
  have g2 : g + 1 ≤ 9223372036854775807 := by omega
  have gw : Hid (IntKind.i64.wrap (g + 1) = g + 1) := by show IntKind.i64.wrap (g + 1) = g + 1; rw [IntKind.wrap_i64]; omega
  have hgI : I64 (g + 1) := ⟨by omega, by omega⟩
  have hnI : I64 n := ⟨by omega, by omega⟩
  have bA : Below w.heap.size w (w.drew.alloc (.cells #[.int .i64 0, .int .i64 0, .slice none 0 0] 102)) := (Below.refl w.heap.size w).drew.alloc (Nat.le_refl _) _
  have eA : (w.drew.alloc (.cells #[.int .i64 0, .int .i64 0, .slice none 0 0] 102)).heap[w.heap.size]? = Option.some (.cells #[.int .i64 0, .int .i64 0, .slice none 0 0] 102 (0, 0)) := heap_alloc_new w.drew _
  have hS1 : IH (w.drew.alloc (.cells #[.int .i64 0, .int .i64 0, .slice none 0 0] 102)) := kH w.drew _ hS hlt ((Below.refl w.drew.heap.size w.drew).alloc (Nat.le_refl _) _)
  have sA : w.heap.size < (w.drew.alloc (.cells #[.int .i64 0, .int .i64 0, .slice none 0 0] 102)).heap.size := by simp
  have hS2 : IH ((w.drew.alloc (.cells #[.int .i64 0, .int .i64 0, .slice none 0 0] 102)).setRow w.heap.size #[.int .i64 (g + 1), .int .i64 n, .slice a l cap]) := by rw [hIH] at hS1 ⊢; exact (setRow_other _ _ _ _ (by omega)).trans hS1
  have hst := run_storeVar_row (P := Try.prog) (w.drew.alloc (.cells #[.int .i64 0, .int .i64 0, .slice none 0 0] 102)) w.heap.size 102 102 #[.int .i64 0, .int .i64 0, .slice none 0 0] #[.int .i64 (g + 1), .int .i64 n, .slice a l cap] eA wsizeHead rfl (by simp [Value.oneCell'])
  have eB := setRow_heap (w.drew.alloc (.cells #[.int .i64 0, .int .i64 0, .slice none 0 0] 102)) w.heap.size #[.int .i64 0, .int .i64 0, .slice none 0 0] #[.int .i64 (g + 1), .int .i64 n, .slice a l cap] 102 (0, 0) eA
  have bB : Below w.heap.size w ((w.drew.alloc (.cells #[.int .i64 0, .int .i64 0, .slice none 0 0] 102)).setRow w.heap.size #[.int .i64 (g + 1), .int .i64 n, .slice a l cap]) := below_row bA (Nat.le_refl _) _
  have sB : w.heap.size < ((w.drew.alloc (.cells #[.int .i64 0, .int .i64 0, .slice none 0 0] 102)).setRow w.heap.size #[.int .i64 (g + 1), .int .i64 n, .slice a l cap]).heap.size := by simp
  have cB := bytes_any _ (g + 1) n a l cap zs (hr.after bB) h0 hgI hnI (by omega)
  have S2 := h.later bB
  change Calls Try.prog _ _ _ (Made (headOf (g + 1) n zs) _) at cB
  have nH : own w.heap.size = none := by
    by_cases hn : own w.heap.size = none
    · exact hn
    · have := h.live.disk.old _ hn; omega
  rcases (show c = 0 ∨ c = 1 by omega) with rfl | rfl
  · go_enter Try.func25, Try.ntmps25
    go_wp2
    refine start_held (S := IH) 13 rfl (by kernel_rfl) (hS) ?_
    simp only [Array.replicate_succ, Array.replicate_zero, List.push_toArray, List.nil_append, List.cons_append]
    refine take_held 0 (by assumption) rfl (by kernel_rfl) (by kernel_rfl) (by kernel_rfl) (fun _ _ _ h => h) (by kernel_rfl) (v := ?v11) ?y11 ?r11
    case y11 => (intro u hu; go_simp; try rfl)
    simp only [Act.put, List.setIfInBounds_toArray, List.set_cons_zero, List.set_cons_succ]
    refine take_held 1 (by assumption) rfl (by kernel_rfl) (by kernel_rfl) (by kernel_rfl) (fun _ _ _ h => h) (by kernel_rfl) (v := ?v12) ?y12 ?r12
    case y12 => (intro u hu; go_simp; try rfl)
    simp only [Act.put, List.setIfInBounds_toArray, List.set_cons_zero, List.set_cons_succ]
    refine take_held 2 (by assumption) rfl (by kernel_rfl) (by kernel_rfl) (by kernel_rfl) (fun _ _ _ h => h) (by kernel_rfl) (v := ?v13) ?y13 ?r13
    case y13 => (intro u hu; go_simp; try rfl)
    simp only [Act.put, List.setIfInBounds_toArray, List.set_cons_zero, List.set_cons_succ]
    refine take_held 3 (by assumption) rfl (by kernel_rfl) (by kernel_rfl) (by kernel_rfl) (fun _ _ _ h => h) (by kernel_rfl) (v := ?v14) ?y14 ?r14
    case y14 => (intro u hu; have := k3 u hu; go_simp; try rfl)
    simp only [Act.put, List.setIfInBounds_toArray, List.set_cons_zero, List.set_cons_succ]
    refine take_held 4 (by assumption) rfl (by kernel_rfl) (by kernel_rfl) (by kernel_rfl) (fun _ _ _ h => h) (by kernel_rfl) (v := .int .i64 (g + 1)) ?y15 ?r15
    case y15 => (intro u hu; go_simp; try exact gw.out)
    simp only [Act.put, List.setIfInBounds_toArray, List.set_cons_zero, List.set_cons_succ]
    refine take_held 5 (by assumption) rfl (by kernel_rfl) (by kernel_rfl) (by kernel_rfl) (fun _ _ _ h => h) (by kernel_rfl) (v := ?v16) ?y16 ?r16
    case y16 => (intro u hu; go_simp; try rfl)
    simp only [Act.put, List.setIfInBounds_toArray, List.set_cons_zero, List.set_cons_succ]
    refine take_held 6 (by assumption) rfl (by kernel_rfl) (by kernel_rfl) (by kernel_rfl) (fun _ _ _ h => h) (by kernel_rfl) (v := ?v17) ?y17 ?r17
    case y17 => (intro u hu; go_simp; try rfl)
    simp only [Act.put, List.setIfInBounds_toArray, List.set_cons_zero, List.set_cons_succ]
    refine take_held 7 (by assumption) rfl (by kernel_rfl) (by kernel_rfl) (by kernel_rfl) (fun _ _ _ h => h) (by kernel_rfl) (v := ?v18) ?y18 ?r18
    case y18 => (intro u hu; go_simp; try rfl)
    simp only [Act.put, List.setIfInBounds_toArray, List.set_cons_zero, List.set_cons_succ]
    refine take_held 8 (by assumption) rfl (by kernel_rfl) (by kernel_rfl) (by kernel_rfl) (fun _ _ _ h => h) (by kernel_rfl) (v := ?v19) ?y19 ?r19
    case y19 => (intro u hu; have := k5 u hu; go_simp; try rfl)
    simp only [Act.put, List.setIfInBounds_toArray, List.set_cons_zero, List.set_cons_succ]
    refine take_held 9 (by assumption) rfl (by kernel_rfl) (by kernel_rfl) (by kernel_rfl) (fun _ _ _ h => h) (by kernel_rfl) (v := ?v20) ?y20 ?r20
    case y20 => (intro u hu; go_simp; try rfl)
    simp only [Act.put, List.setIfInBounds_toArray, List.set_cons_zero, List.set_cons_succ]
    refine take_held 10 (by assumption) rfl (by kernel_rfl) (by kernel_rfl) (by kernel_rfl) (fun _ _ _ h => h) (by kernel_rfl) (v := .agg #[.int .i64 (g + 1), .int .i64 n, .slice a l cap]) ?y21 ?r21
    case y21 => (intro u hu; go_simp; try rfl)
    simp only [Act.put, List.setIfInBounds_toArray, List.set_cons_zero, List.set_cons_succ]
    refine value_held 11 rfl (by kernel_rfl) (by kernel_rfl) (.pointer (Option.some ⟨w.heap.size, 0, none⟩)) (w.drew.alloc (.cells #[.int .i64 0, .int .i64 0, .slice none 0 0] 102)) (by go_simp; try rfl) hS1 ?_
    simp only [Act.put, List.setIfInBounds_toArray, List.set_cons_zero, List.set_cons_succ]
    refine store_held 12 rfl (by kernel_rfl) (by kernel_rfl) ((w.drew.alloc (.cells #[.int .i64 0, .int .i64 0, .slice none 0 0] 102)).setRow w.heap.size #[.int .i64 (g + 1), .int .i64 n, .slice a l cap]) (run_store_op 102 (.tmp 5) (.tmp 16) rfl w.heap.size _ rfl rfl hst) hS2 ?_
    simp only [Act.put, List.setIfInBounds_toArray, List.set_cons_zero, List.set_cons_succ]
    refine done_held (by kernel_rfl) ?_ _
    clear eA hst hS1 bA sA
    generalize (w.drew.alloc (.cells #[.int .i64 0, .int .i64 0, .slice none 0 0] 102)).setRow w.heap.size #[.int .i64 (g + 1), .int .i64 n, .slice a l cap] = w2 at *
    generalize hX : headOf (g + 1) n zs = X at *
    have xg : ¬ ((65536 : Int) < X.length) := by omega
    go_wp2_with (first
      | (go_at_call 64; refine (Wal.erase_any S4.live (by omega) (S4.log 1 (by decide)) (by decide)).mono ?_; rintro e w5 ⟨rfl, own5, h5, f5⟩; have S5 := S4.fr h5 f5)
      | (go_at_call 56; refine (other_any S3).mono ?_; rintro e w4 ⟨rfl, q4, hw4⟩; simp only [Nat.sub_zero, Nat.sub_self]; have b4 : Below w3.heap.size w3 w4 := (by rw [hw4]; exact ⟨rfl, rfl, rfl, Nat.le_refl _, fun _ _ => rfl⟩); have S4 := S3.later b4; clear hw4)
      | (go_at_call 63; refine cB.mono ?_; rintro e w3 ⟨v3, rfl, m3, b3, n3⟩; obtain ⟨a3, d3, rfl, r3, z3, l3, q3⟩ := m3.form; have S3 := S2.later b3)
      | (refine wpList_load_row rfl 102 (.tmp 5) rfl w.heap.size rfl 102 #[.int .i64 (g + 1), .int .i64 n, .slice a l cap] (0, 0) _ eB Try.underlying102 rfl wsizeHead ?_))
    have B4 : Below w.heap.size w w4 := Codec.bcat (Codec.bcat bB b3 (Nat.le_refl _)) b4 (Nat.le_refl _)
    have F5 : SFr S own own5 w w5 := (SFr.below (o := own) S B4).trans (SFr.of S f5)
    have e4 : w4.heap[w.heap.size]? = Option.some (.cells #[.int .i64 (g + 1), .int .i64 n, .slice a l cap] 102 (0, 0)) := (b4.block _ (Nat.lt_of_lt_of_le sB b3.size)).trans ((b3.block _ sB).trans eB)
    have e5 := (f5.kept.block _ (Nat.lt_of_lt_of_le sB (Nat.le_trans b3.size b4.size)) nH).trans e4
    have s5 : w.heap.size < w5.heap.size := Nat.lt_of_lt_of_le sB (Nat.le_trans b3.size (Nat.le_trans b4.size f5.kept.size))
    have r5 : Codec.Row w5 a l zs := row_keep hr fun x hx hn => (f5.kept.block _ (Nat.lt_of_lt_of_le (hr.lt x hx hn) B4.size) (ha x hx hn)).trans (B4.block _ (hr.lt x hx hn))
    have en : now (setSt σ 1 ((σ 1).1, (σ 1).2 ++ [.inr 0])) 1 = [] := by unfold now; rw [setSt_at, Disk.run_append, Disk.run_cut]; rfl
    have hX' : (num (g + 1) ++ num n) ++ zs = X := hX
    have t5 := S5.drew
    have cL := lay_any t5 (by omega) 1 (by decide) (g + 1) n a l cap zs (r5.after (Below.refl w5.heap.size w5).drew) h0 hgI hnI (by rw [hX']; exact h2) (by rw [en, hX', List.length_nil]; omega)
    rw [hX', lay_erased] at cL
    obtain ⟨IJ, hIJ⟩ : ∃ I : World → Prop, I = fun u => u.heap[w.heap.size]? = Option.some (.cells #[.int .i64 (g + 1), .int .i64 n, .slice a l cap] 102 (0, 0)) ∧ u.heap[S]? = Option.some (.cells (cellsOf L 0 g f n) 97 (0, 0)) := ⟨_, rfl⟩
    have k2 : ∀ u, IJ u → u.cell? ⟨S, 2, none⟩ = Option.some (.int .i64 (0 : Nat)) := fun u hu => by rw [hIJ] at hu; exact cell_of_row u _ 2 _ _ _ hu.2
    have kL : ∀ u, IJ u → (loadVar 102 ⟨w.heap.size, 0, none⟩).run Try.prog u = .ok (.agg #[.int .i64 (g + 1), .int .i64 n, .slice a l cap]) u := fun u hu => by rw [hIJ] at hu; exact run_loadVar_row _ _ _ _ _ (0, 0) _ hu.1 Try.underlying102 rfl wsizeHead
    have hJ : IJ w5.drew := by rw [hIJ]; exact ⟨e5, S5.row⟩
    refine start_held (S := fun _ => True) 8 rfl (by kernel_rfl) trivial ?_
    simp only [Array.replicate_succ, Array.replicate_zero, List.push_toArray, List.nil_append, List.cons_append]
    have hT : (fun _ : World => True) w5.drew := trivial
    refine take_held 0 (by assumption) rfl (by kernel_rfl) (by kernel_rfl) (by kernel_rfl) (fun _ _ _ h => h) (by kernel_rfl) (v := ?v22) ?y22 ?r22
    case y22 => (intro u hu; go_simp; try rfl)
    simp only [Act.put, List.setIfInBounds_toArray, List.set_cons_zero, List.set_cons_succ]
    refine take_held 1 (by assumption) rfl (by kernel_rfl) (by kernel_rfl) (by kernel_rfl) (fun _ _ _ h => h) (by kernel_rfl) (v := ?v23) ?y23 ?r23
    case y23 => (intro u hu; go_simp; try rfl)
    simp only [Act.put, List.setIfInBounds_toArray, List.set_cons_zero, List.set_cons_succ]
    refine take_held 2 (by assumption) rfl (by kernel_rfl) (by kernel_rfl) (by kernel_rfl) (fun _ _ _ h => h) (by kernel_rfl) (v := ?v24) ?y24 ?r24
    case y24 => (intro u hu; go_simp; try rfl)
    simp only [Act.put, List.setIfInBounds_toArray, List.set_cons_zero, List.set_cons_succ]
    refine take_held 3 (by assumption) rfl (by kernel_rfl) (by kernel_rfl) (by kernel_rfl) (fun _ _ _ h => h) (by kernel_rfl) (v := ?v25) ?y25 ?r25
    case y25 => (intro u hu; go_simp; try rfl)
    simp only [Act.put, List.setIfInBounds_toArray, List.set_cons_zero, List.set_cons_succ]
    have L2 := k2 _ hJ
    refine wpAnyH_ready (rs := [4, 6]) (by kernel_rfl) (by simp) (AllReadyH.cons ((Wal.nth_eq _ 4).trans rfl) ?va (AllReadyH.cons ((Wal.nth_eq _ 6).trans rfl) ?vb AllReadyH.nil))
    case va =>
      intro K' hK
      refine Wal.value_in hK (by kernel_rfl) (.int .i64 0) w5.drew (by go_simp; try rfl) trivial ?_
      simp only [Act.put, List.setIfInBounds_toArray, List.set_cons_zero, List.set_cons_succ]
      refine take_held 5 (by assumption) rfl (by kernel_rfl) (by kernel_rfl) (by kernel_rfl) (fun _ _ _ h => h) (by kernel_rfl) (v := .int .i64 1) ?y26 ?r26
      case y26 => (intro u hu; go_simp; try rfl)
      simp only [Act.put, List.setIfInBounds_toArray, List.set_cons_zero, List.set_cons_succ]
      refine read_held 6 rfl (by kernel_rfl) (by kernel_rfl) (.agg #[.int .i64 (g + 1), .int .i64 n, .slice a l cap]) (run_load_op 102 (.tmp 5) rfl w.heap.size _ rfl (kL _ hJ)) trivial ?_
      simp only [Act.put, List.setIfInBounds_toArray, List.set_cons_zero, List.set_cons_succ]
      refine last_held 7 rfl (by kernel_rfl) (by kernel_rfl) 65 #[.pointer (Option.some ⟨S, 0, none⟩), .int .i64 1, .agg #[.int .i64 (g + 1), .int .i64 n, .slice a l cap]] (by go_simp) _ (Wal.call_val cL) (by kernel_rfl) (fun _ _ _ => trivial) ?_
      rintro v w6 ⟨rfl, own6, S6, F6⟩
      simp only [Act.put, List.setIfInBounds_toArray, List.set_cons_zero, List.set_cons_succ]
      go_wp2_with (first
        | (go_at_call 56; refine (other_any S6).mono ?_; rintro e w7 ⟨rfl, q7, hw7⟩; simp only [Nat.sub_zero, Nat.sub_self]; have b7 : Below w6.heap.size w6 w7 := (by rw [hw7]; exact ⟨rfl, rfl, rfl, Nat.le_refl _, fun _ _ => rfl⟩); have S7 := S6.later b7; clear hw7)
        | (go_at_call 58; refine (empty_any S7.live (by omega) (S7.log 0 (by decide)) (by decide)).mono ?_; rintro e w8 ⟨rfl, own8, h8, f8⟩))
      go_ret
      have z8 := S7.fr h8 f8
      rw [← hX] at z8
      exact ⟨rfl, own8, z8, (((F5.trans (SFr.below (o := own5) S (Below.refl w5.heap.size w5).drew)).trans F6).trans (SFr.below (o := own6) S b7)).trans (SFr.of S f8)⟩
    case vb =>
      intro K' hK
      refine Wal.value_in hK (by kernel_rfl) (.agg #[.int .i64 (g + 1), .int .i64 n, .slice a l cap]) w5.drew (run_load_op 102 (.tmp 5) rfl w.heap.size _ rfl (kL _ hJ)) trivial ?_
      simp only [Act.put, List.setIfInBounds_toArray, List.set_cons_zero, List.set_cons_succ]
      refine read_held 4 rfl (by kernel_rfl) (by kernel_rfl) (.int .i64 0) (by go_simp; try rfl) trivial ?_
      simp only [Act.put, List.setIfInBounds_toArray, List.set_cons_zero, List.set_cons_succ]
      refine take_held 5 (by assumption) rfl (by kernel_rfl) (by kernel_rfl) (by kernel_rfl) (fun _ _ _ h => h) (by kernel_rfl) (v := .int .i64 1) ?y27 ?r27
      case y27 => (intro u hu; go_simp; try rfl)
      simp only [Act.put, List.setIfInBounds_toArray, List.set_cons_zero, List.set_cons_succ]
      refine last_held 7 rfl (by kernel_rfl) (by kernel_rfl) 65 #[.pointer (Option.some ⟨S, 0, none⟩), .int .i64 1, .agg #[.int .i64 (g + 1), .int .i64 n, .slice a l cap]] (by go_simp) _ (Wal.call_val cL) (by kernel_rfl) (fun _ _ _ => trivial) ?_
      rintro v w6 ⟨rfl, own6, S6, F6⟩
      simp only [Act.put, List.setIfInBounds_toArray, List.set_cons_zero, List.set_cons_succ]
      go_wp2_with (first
        | (go_at_call 56; refine (other_any S6).mono ?_; rintro e w7 ⟨rfl, q7, hw7⟩; simp only [Nat.sub_zero, Nat.sub_self]; have b7 : Below w6.heap.size w6 w7 := (by rw [hw7]; exact ⟨rfl, rfl, rfl, Nat.le_refl _, fun _ _ => rfl⟩); have S7 := S6.later b7; clear hw7)
        | (go_at_call 58; refine (empty_any S7.live (by omega) (S7.log 0 (by decide)) (by decide)).mono ?_; rintro e w8 ⟨rfl, own8, h8, f8⟩))
      go_ret
      have z8 := S7.fr h8 f8
      rw [← hX] at z8
      exact ⟨rfl, own8, z8, (((F5.trans (SFr.below (o := own5) S (Below.refl w5.heap.size w5).drew)).trans F6).trans (SFr.below (o := own6) S b7)).trans (SFr.of S f8)⟩
  · go_enter Try.func25, Try.ntmps25
    go_wp2
    refine start_held (S := IH) 13 rfl (by kernel_rfl) (hS) ?_
    simp only [Array.replicate_succ, Array.replicate_zero, List.push_toArray, List.nil_append, List.cons_append]
    refine take_held 0 (by assumption) rfl (by kernel_rfl) (by kernel_rfl) (by kernel_rfl) (fun _ _ _ h => h) (by kernel_rfl) (v := ?v28) ?y28 ?r28
    case y28 => (intro u hu; go_simp; try rfl)
    simp only [Act.put, List.setIfInBounds_toArray, List.set_cons_zero, List.set_cons_succ]
    refine take_held 1 (by assumption) rfl (by kernel_rfl) (by kernel_rfl) (by kernel_rfl) (fun _ _ _ h => h) (by kernel_rfl) (v := ?v29) ?y29 ?r29
    case y29 => (intro u hu; go_simp; try rfl)
    simp only [Act.put, List.setIfInBounds_toArray, List.set_cons_zero, List.set_cons_succ]
    refine take_held 2 (by assumption) rfl (by kernel_rfl) (by kernel_rfl) (by kernel_rfl) (fun _ _ _ h => h) (by kernel_rfl) (v := ?v30) ?y30 ?r30
    case y30 => (intro u hu; go_simp; try rfl)
    simp only [Act.put, List.setIfInBounds_toArray, List.set_cons_zero, List.set_cons_succ]
    refine take_held 3 (by assumption) rfl (by kernel_rfl) (by kernel_rfl) (by kernel_rfl) (fun _ _ _ h => h) (by kernel_rfl) (v := ?v31) ?y31 ?r31
    case y31 => (intro u hu; have := k3 u hu; go_simp; try rfl)
    simp only [Act.put, List.setIfInBounds_toArray, List.set_cons_zero, List.set_cons_succ]
    refine take_held 4 (by assumption) rfl (by kernel_rfl) (by kernel_rfl) (by kernel_rfl) (fun _ _ _ h => h) (by kernel_rfl) (v := .int .i64 (g + 1)) ?y32 ?r32
    case y32 => (intro u hu; go_simp; try exact gw.out)
    simp only [Act.put, List.setIfInBounds_toArray, List.set_cons_zero, List.set_cons_succ]
    refine take_held 5 (by assumption) rfl (by kernel_rfl) (by kernel_rfl) (by kernel_rfl) (fun _ _ _ h => h) (by kernel_rfl) (v := ?v33) ?y33 ?r33
    case y33 => (intro u hu; go_simp; try rfl)
    simp only [Act.put, List.setIfInBounds_toArray, List.set_cons_zero, List.set_cons_succ]
    refine take_held 6 (by assumption) rfl (by kernel_rfl) (by kernel_rfl) (by kernel_rfl) (fun _ _ _ h => h) (by kernel_rfl) (v := ?v34) ?y34 ?r34
    case y34 => (intro u hu; go_simp; try rfl)
    simp only [Act.put, List.setIfInBounds_toArray, List.set_cons_zero, List.set_cons_succ]
    refine take_held 7 (by assumption) rfl (by kernel_rfl) (by kernel_rfl) (by kernel_rfl) (fun _ _ _ h => h) (by kernel_rfl) (v := ?v35) ?y35 ?r35
    case y35 => (intro u hu; go_simp; try rfl)
    simp only [Act.put, List.setIfInBounds_toArray, List.set_cons_zero, List.set_cons_succ]
    refine take_held 8 (by assumption) rfl (by kernel_rfl) (by kernel_rfl) (by kernel_rfl) (fun _ _ _ h => h) (by kernel_rfl) (v := ?v36) ?y36 ?r36
    case y36 => (intro u hu; have := k5 u hu; go_simp; try rfl)
    simp only [Act.put, List.setIfInBounds_toArray, List.set_cons_zero, List.set_cons_succ]
    refine take_held 9 (by assumption) rfl (by kernel_rfl) (by kernel_rfl) (by kernel_rfl) (fun _ _ _ h => h) (by kernel_rfl) (v := ?v37) ?y37 ?r37
    case y37 => (intro u hu; go_simp; try rfl)
    simp only [Act.put, List.setIfInBounds_toArray, List.set_cons_zero, List.set_cons_succ]
    refine take_held 10 (by assumption) rfl (by kernel_rfl) (by kernel_rfl) (by kernel_rfl) (fun _ _ _ h => h) (by kernel_rfl) (v := .agg #[.int .i64 (g + 1), .int .i64 n, .slice a l cap]) ?y38 ?r38
    case y38 => (intro u hu; go_simp; try rfl)
    simp only [Act.put, List.setIfInBounds_toArray, List.set_cons_zero, List.set_cons_succ]
    refine value_held 11 rfl (by kernel_rfl) (by kernel_rfl) (.pointer (Option.some ⟨w.heap.size, 0, none⟩)) (w.drew.alloc (.cells #[.int .i64 0, .int .i64 0, .slice none 0 0] 102)) (by go_simp; try rfl) hS1 ?_
    simp only [Act.put, List.setIfInBounds_toArray, List.set_cons_zero, List.set_cons_succ]
    refine store_held 12 rfl (by kernel_rfl) (by kernel_rfl) ((w.drew.alloc (.cells #[.int .i64 0, .int .i64 0, .slice none 0 0] 102)).setRow w.heap.size #[.int .i64 (g + 1), .int .i64 n, .slice a l cap]) (run_store_op 102 (.tmp 5) (.tmp 16) rfl w.heap.size _ rfl rfl hst) hS2 ?_
    simp only [Act.put, List.setIfInBounds_toArray, List.set_cons_zero, List.set_cons_succ]
    refine done_held (by kernel_rfl) ?_ _
    clear eA hst hS1 bA sA
    generalize (w.drew.alloc (.cells #[.int .i64 0, .int .i64 0, .slice none 0 0] 102)).setRow w.heap.size #[.int .i64 (g + 1), .int .i64 n, .slice a l cap] = w2 at *
    generalize hX : headOf (g + 1) n zs = X at *
    have xg : ¬ ((65536 : Int) < X.length) := by omega
    go_wp2_with (first
      | (go_at_call 64; refine (Wal.erase_any S4.live (by omega) (S4.log 0 (by decide)) (by decide)).mono ?_; rintro e w5 ⟨rfl, own5, h5, f5⟩; have S5 := S4.fr h5 f5)
      | (go_at_call 56; refine (other_any S3).mono ?_; rintro e w4 ⟨rfl, q4, hw4⟩; simp only [Nat.sub_zero, Nat.sub_self]; have b4 : Below w3.heap.size w3 w4 := (by rw [hw4]; exact ⟨rfl, rfl, rfl, Nat.le_refl _, fun _ _ => rfl⟩); have S4 := S3.later b4; clear hw4)
      | (go_at_call 63; refine cB.mono ?_; rintro e w3 ⟨v3, rfl, m3, b3, n3⟩; obtain ⟨a3, d3, rfl, r3, z3, l3, q3⟩ := m3.form; have S3 := S2.later b3)
      | (refine wpList_load_row rfl 102 (.tmp 5) rfl w.heap.size rfl 102 #[.int .i64 (g + 1), .int .i64 n, .slice a l cap] (0, 0) _ eB Try.underlying102 rfl wsizeHead ?_))
    have B4 : Below w.heap.size w w4 := Codec.bcat (Codec.bcat bB b3 (Nat.le_refl _)) b4 (Nat.le_refl _)
    have F5 : SFr S own own5 w w5 := (SFr.below (o := own) S B4).trans (SFr.of S f5)
    have e4 : w4.heap[w.heap.size]? = Option.some (.cells #[.int .i64 (g + 1), .int .i64 n, .slice a l cap] 102 (0, 0)) := (b4.block _ (Nat.lt_of_lt_of_le sB b3.size)).trans ((b3.block _ sB).trans eB)
    have e5 := (f5.kept.block _ (Nat.lt_of_lt_of_le sB (Nat.le_trans b3.size b4.size)) nH).trans e4
    have s5 : w.heap.size < w5.heap.size := Nat.lt_of_lt_of_le sB (Nat.le_trans b3.size (Nat.le_trans b4.size f5.kept.size))
    have r5 : Codec.Row w5 a l zs := row_keep hr fun x hx hn => (f5.kept.block _ (Nat.lt_of_lt_of_le (hr.lt x hx hn) B4.size) (ha x hx hn)).trans (B4.block _ (hr.lt x hx hn))
    have en : now (setSt σ 0 ((σ 0).1, (σ 0).2 ++ [.inr 0])) 0 = [] := by unfold now; rw [setSt_at, Disk.run_append, Disk.run_cut]; rfl
    have hX' : (num (g + 1) ++ num n) ++ zs = X := hX
    have t5 := S5.drew
    have cL := lay_any t5 (by omega) 0 (by decide) (g + 1) n a l cap zs (r5.after (Below.refl w5.heap.size w5).drew) h0 hgI hnI (by rw [hX']; exact h2) (by rw [en, hX', List.length_nil]; omega)
    rw [hX', lay_erased] at cL
    obtain ⟨IJ, hIJ⟩ : ∃ I : World → Prop, I = fun u => u.heap[w.heap.size]? = Option.some (.cells #[.int .i64 (g + 1), .int .i64 n, .slice a l cap] 102 (0, 0)) ∧ u.heap[S]? = Option.some (.cells (cellsOf L 1 g f n) 97 (0, 0)) := ⟨_, rfl⟩
    have k2 : ∀ u, IJ u → u.cell? ⟨S, 2, none⟩ = Option.some (.int .i64 (1 : Nat)) := fun u hu => by rw [hIJ] at hu; exact cell_of_row u _ 2 _ _ _ hu.2
    have kL : ∀ u, IJ u → (loadVar 102 ⟨w.heap.size, 0, none⟩).run Try.prog u = .ok (.agg #[.int .i64 (g + 1), .int .i64 n, .slice a l cap]) u := fun u hu => by rw [hIJ] at hu; exact run_loadVar_row _ _ _ _ _ (0, 0) _ hu.1 Try.underlying102 rfl wsizeHead
    have hJ : IJ w5.drew := by rw [hIJ]; exact ⟨e5, S5.row⟩
    refine start_held (S := fun _ => True) 8 rfl (by kernel_rfl) trivial ?_
    simp only [Array.replicate_succ, Array.replicate_zero, List.push_toArray, List.nil_append, List.cons_append]
    have hT : (fun _ : World => True) w5.drew := trivial
    refine take_held 0 (by assumption) rfl (by kernel_rfl) (by kernel_rfl) (by kernel_rfl) (fun _ _ _ h => h) (by kernel_rfl) (v := ?v39) ?y39 ?r39
    case y39 => (intro u hu; go_simp; try rfl)
    simp only [Act.put, List.setIfInBounds_toArray, List.set_cons_zero, List.set_cons_succ]
    refine take_held 1 (by assumption) rfl (by kernel_rfl) (by kernel_rfl) (by kernel_rfl) (fun _ _ _ h => h) (by kernel_rfl) (v := ?v40) ?y40 ?r40
    case y40 => (intro u hu; go_simp; try rfl)
    simp only [Act.put, List.setIfInBounds_toArray, List.set_cons_zero, List.set_cons_succ]
    refine take_held 2 (by assumption) rfl (by kernel_rfl) (by kernel_rfl) (by kernel_rfl) (fun _ _ _ h => h) (by kernel_rfl) (v := ?v41) ?y41 ?r41
    case y41 => (intro u hu; go_simp; try rfl)
    simp only [Act.put, List.setIfInBounds_toArray, List.set_cons_zero, List.set_cons_succ]
    refine take_held 3 (by assumption) rfl (by kernel_rfl) (by kernel_rfl) (by kernel_rfl) (fun _ _ _ h => h) (by kernel_rfl) (v := ?v42) ?y42 ?r42
    case y42 => (intro u hu; go_simp; try rfl)
    simp only [Act.put, List.setIfInBounds_toArray, List.set_cons_zero, List.set_cons_succ]
    have L2 := k2 _ hJ
    refine wpAnyH_ready (rs := [4, 6]) (by kernel_rfl) (by simp) (AllReadyH.cons ((Wal.nth_eq _ 4).trans rfl) ?va (AllReadyH.cons ((Wal.nth_eq _ 6).trans rfl) ?vb AllReadyH.nil))
    case va =>
      intro K' hK
      refine Wal.value_in hK (by kernel_rfl) (.int .i64 1) w5.drew (by go_simp; try rfl) trivial ?_
      simp only [Act.put, List.setIfInBounds_toArray, List.set_cons_zero, List.set_cons_succ]
      refine take_held 5 (by assumption) rfl (by kernel_rfl) (by kernel_rfl) (by kernel_rfl) (fun _ _ _ h => h) (by kernel_rfl) (v := .int .i64 0) ?y43 ?r43
      case y43 => (intro u hu; go_simp; try rfl)
      simp only [Act.put, List.setIfInBounds_toArray, List.set_cons_zero, List.set_cons_succ]
      refine read_held 6 rfl (by kernel_rfl) (by kernel_rfl) (.agg #[.int .i64 (g + 1), .int .i64 n, .slice a l cap]) (run_load_op 102 (.tmp 5) rfl w.heap.size _ rfl (kL _ hJ)) trivial ?_
      simp only [Act.put, List.setIfInBounds_toArray, List.set_cons_zero, List.set_cons_succ]
      refine last_held 7 rfl (by kernel_rfl) (by kernel_rfl) 65 #[.pointer (Option.some ⟨S, 0, none⟩), .int .i64 0, .agg #[.int .i64 (g + 1), .int .i64 n, .slice a l cap]] (by go_simp) _ (Wal.call_val cL) (by kernel_rfl) (fun _ _ _ => trivial) ?_
      rintro v w6 ⟨rfl, own6, S6, F6⟩
      simp only [Act.put, List.setIfInBounds_toArray, List.set_cons_zero, List.set_cons_succ]
      go_wp2_with (first
        | (go_at_call 56; refine (other_any S6).mono ?_; rintro e w7 ⟨rfl, q7, hw7⟩; simp only [Nat.sub_zero, Nat.sub_self]; have b7 : Below w6.heap.size w6 w7 := (by rw [hw7]; exact ⟨rfl, rfl, rfl, Nat.le_refl _, fun _ _ => rfl⟩); have S7 := S6.later b7; clear hw7)
        | (go_at_call 58; refine (empty_any S7.live (by omega) (S7.log 1 (by decide)) (by decide)).mono ?_; rintro e w8 ⟨rfl, own8, h8, f8⟩))
      go_ret
      have z8 := S7.fr h8 f8
      rw [← hX] at z8
      exact ⟨rfl, own8, z8, (((F5.trans (SFr.below (o := own5) S (Below.refl w5.heap.size w5).drew)).trans F6).trans (SFr.below (o := own6) S b7)).trans (SFr.of S f8)⟩
    case vb =>
      intro K' hK
      refine Wal.value_in hK (by kernel_rfl) (.agg #[.int .i64 (g + 1), .int .i64 n, .slice a l cap]) w5.drew (run_load_op 102 (.tmp 5) rfl w.heap.size _ rfl (kL _ hJ)) trivial ?_
      simp only [Act.put, List.setIfInBounds_toArray, List.set_cons_zero, List.set_cons_succ]
      refine read_held 4 rfl (by kernel_rfl) (by kernel_rfl) (.int .i64 1) (by go_simp; try rfl) trivial ?_
      simp only [Act.put, List.setIfInBounds_toArray, List.set_cons_zero, List.set_cons_succ]
      refine take_held 5 (by assumption) rfl (by kernel_rfl) (by kernel_rfl) (by kernel_rfl) (fun _ _ _ h => h) (by kernel_rfl) (v := .int .i64 0) ?y44 ?r44
      case y44 => (intro u hu; go_simp; try rfl)
      simp only [Act.put, List.setIfInBounds_toArray, List.set_cons_zero, List.set_cons_succ]
      refine last_held 7 rfl (by kernel_rfl) (by kernel_rfl) 65 #[.pointer (Option.some ⟨S, 0, none⟩), .int .i64 0, .agg #[.int .i64 (g + 1), .int .i64 n, .slice a l cap]] (by go_simp) _ (Wal.call_val cL) (by kernel_rfl) (fun _ _ _ => trivial) ?_
      rintro v w6 ⟨rfl, own6, S6, F6⟩
      simp only [Act.put, List.setIfInBounds_toArray, List.set_cons_zero, List.set_cons_succ]
      go_wp2_with (first
        | (go_at_call 56; refine (other_any S6).mono ?_; rintro e w7 ⟨rfl, q7, hw7⟩; simp only [Nat.sub_zero, Nat.sub_self]; have b7 : Below w6.heap.size w6 w7 := (by rw [hw7]; exact ⟨rfl, rfl, rfl, Nat.le_refl _, fun _ _ => rfl⟩); have S7 := S6.later b7; clear hw7)
        | (go_at_call 58; refine (empty_any S7.live (by omega) (S7.log 1 (by decide)) (by decide)).mono ?_; rintro e w8 ⟨rfl, own8, h8, f8⟩))
      go_ret
      have z8 := S7.fr h8 f8
      rw [← hX] at z8
      exact ⟨rfl, own8, z8, (((F5.trans (SFr.below (o := own5) S (Below.refl w5.heap.size w5).drew)).trans F6).trans (SFr.below (o := own6) S b7)).trans (SFr.of S f8)⟩
end Go.Proofs.Yticfkdiggiogdaa.Store
