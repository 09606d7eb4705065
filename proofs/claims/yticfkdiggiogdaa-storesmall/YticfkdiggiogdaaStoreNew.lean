/-
  Open of package store where no file has a record: a first head is laid.
-/
import Derived.Test.YticfkdiggiogdaaStoreBegin
namespace Go.Proofs.Yticfkdiggiogdaa.Store
set_option linter.unusedVariables false
set_option linter.unusedSimpArgs false
open Go Go.RowKit Go.Shelf Go.Proofs
open Go.Proofs.Yticfkdiggiogdaa.Disk (Row getD_in ret_int add_add DiskIs Kept St now setSt owns_row owns_same)
open Go.Proofs.Yticfkdiggiogdaa.Wal (start_held take_held call_held read_held done_held Owns Fr Live Free LogIs cell_block rec setSt_at setSt_two appSt now_app openSt)
open Go.Proofs.Yticfkdiggiogdaa.Codec (num I64 Made Mine)

theorem results_cell_tmp {fn : Func} {p q : Tmp} {ty : TypeId} (h : fn.results = #[.cell p ty, .tmp q]) (tmps : Array Value) (w : World) (N : Nat) (cs : Array Value)
    (hp : tmps[p]? = Option.some (.pointer (Option.some ⟨N, 0, none⟩))) (hl : (loadVar ty ⟨N, 0, none⟩).run Try.prog w = .ok (.agg cs) w) :
    (results fn tmps).run Try.prog w = .ok (.tuple #[.agg cs, tmps.getD q undef]) w := by
  have hp' : tmps[p]?.getD undef = .pointer (Option.some ⟨N, 0, none⟩) := by rw [hp]; rfl
  simp [results, h, hp', asAddr, hl]
theorem results_tmp_cell {fn : Func} {p q : Tmp} {ty : TypeId} (h : fn.results = #[.tmp q, .cell p ty]) (tmps : Array Value) (w : World) (N : Nat) (cs : Array Value)
    (hp : tmps[p]? = Option.some (.pointer (Option.some ⟨N, 0, none⟩))) (hl : (loadVar ty ⟨N, 0, none⟩).run Try.prog w = .ok (.agg cs) w) :
    (results fn tmps).run Try.prog w = .ok (.tuple #[tmps.getD q undef, .agg cs]) w := by
  have hp' : tmps[p]?.getD undef = .pointer (Option.some ⟨N, 0, none⟩) := by rw [hp]; rfl
  simp [results, h, hp', asAddr, hl]
set_option maxRecDepth 100000 in
set_option maxHeartbeats 1000000 in
theorem headOf_none (w : World) (a : Option Addr) (cap : Nat) :
    Calls Try.prog 78 #[.slice a 0 cap] w fun e w' => e = .returned (.tuple #[.agg #[.int .i64 0, .int .i64 0, .slice none 0 0], .bool false]) ∧ Below w.heap.size w w' := by
  have b1 : Below w.heap.size w (w.alloc (.cells #[.int .i64 0, .int .i64 0, .slice none 0 0] 102)) := (Below.refl _ _).alloc (Nat.le_refl _) _
  have e1 := heap_alloc_new w (.cells #[.int .i64 0, .int .i64 0, .slice none 0 0] 102)
  go_enter Try.func78, Try.ntmps78
  go_wp2_with (refine wpList_store_row rfl 102 (.tmp 2) (.tmp 13) rfl w.heap.size #[.int .i64 0, .int .i64 0, .slice none 0 0] rfl rfl 102 #[.int .i64 0, .int .i64 0, .slice none 0 0] e1 wsizeHead rfl (by simp [Value.oneCell']) ?_)
  refine bodyPost_ret (results_cell_tmp Try.results78 _ _ w.heap.size #[.int .i64 0, .int .i64 0, .slice none 0 0] rfl (run_loadVar_row _ _ _ _ _ (0, 0) _ (setRow_heap _ _ _ _ _ _ e1) Try.underlying102 rfl wsizeHead)) rfl ?_
  exact ⟨rfl, below_row b1 (Nat.le_refl _) _⟩
theorem run_indexT0 (w : World) (p q : Value) : (Instr.index 98 (.agg #[p, q]) (.int .i64 0)).run Try.prog w = .ok p w := by kernel_rfl
theorem run_indexT1 (w : World) (p q : Value) : (Instr.index 98 (.agg #[p, q]) (.int .i64 1)).run Try.prog w = .ok q w := by kernel_rfl
def zHead : Array Value := #[.int .i64 0, .int .i64 0, .slice none 0 0]
structure Mid (w : World) (B : Nat) (wr : World) : Prop where
  below : Below w.heap.size w wr
  size : B + 3 ≤ wr.heap.size
  res : wr.heap[B + 1]? = Option.some (.cells zHead 102 (0, 0))
  best : wr.heap[B + 2]? = Option.some (.cells zHead 102 (0, 0))
theorem Mid.go {w wr w' : World} {B : Nat} (h : Mid w B wr) (hb : Below wr.heap.size wr w') : Mid w B w' :=
  ⟨h.below.trans (hb.mono h.below.size), Nat.le_trans h.size hb.size, (hb.block _ (by have := h.size; omega)).trans h.res, (hb.block _ (by have := h.size; omega)).trans h.best⟩
set_option maxRecDepth 100000 in
set_option maxHeartbeats 4000000 in
theorem newest_none (w : World) (a0 a1 : Option Addr) (c0 c1 : Nat) :
    Calls Try.prog 51 #[.agg #[.slice a0 0 c0, .slice a1 0 c1]] w fun e w' => e = .returned (.tuple #[.int .i64 0, .agg #[.int .i64 0, .int .i64 0, .slice none 0 0]]) ∧ Below w.heap.size w w' := by
  go_enter Try.func51, Try.ntmps51
  go_wp2_with fail
  have hm0 : Mid w w.heap.size (((w.alloc (.cells #[.slice a0 0 c0, .slice a1 0 c1] 98)).alloc (.cells #[.int .i64 0, .int .i64 0, .slice none 0 0] 102)).alloc (.cells #[.int .i64 0, .int .i64 0, .slice none 0 0] 102)) := by
    refine ⟨(((Below.refl _ _).alloc (Nat.le_refl _) _).alloc (by simp) _).alloc (by simp; omega) _, by simp, ?_, ?_⟩
    · have e1 : (w.alloc (.cells #[.slice a0 0 c0, .slice a1 0 c1] 98)).heap.size = w.heap.size + 1 := by simp
      rw [((Below.refl _ _).alloc (Nat.le_refl _) _).block _ (by simp), ← e1]
      exact heap_alloc_new _ _
    · have e1 : ((w.alloc (.cells #[.slice a0 0 c0, .slice a1 0 c1] 98)).alloc (.cells #[.int .i64 0, .int .i64 0, .slice none 0 0] 102)).heap.size = w.heap.size + 2 := by simp
      rw [← e1]
      exact heap_alloc_new _ _
  generalize ((w.alloc (.cells #[.slice a0 0 c0, .slice a1 0 c1] 98)).alloc (.cells #[.int .i64 0, .int .i64 0, .slice none 0 0] 102)).alloc (.cells #[.int .i64 0, .int .i64 0, .slice none 0 0] 102) = wm at *
  go_loopw [4, 12] (fun f j wr => f = .int .i64 0 ∧ Hid (Mid w w.heap.size wr ∧ (j = .int .i64 0 ∨ j = .int .i64 1 ∨ j = .int .i64 2))) (fun _ j _ => 2 - (intOf j).toNat)
  case atStart => exact ⟨rfl, ⟨hm0, Or.inl rfl⟩⟩
  case round =>
    obtain ⟨rfl, hrel⟩ := hrel
    obtain ⟨hM, rfl | rfl | rfl⟩ := hrel.out
    · clear hrel
      have c1 := headOf_none wr a0 c0
      go_wp2_with (first
        | (refine wpList_index rfl 98 (.tmp 11) (.tmp 12) rfl _ 0 rfl rfl _ (run_indexT0 _ _ _) ?_)
        | (go_at_call 78; refine c1.mono ?_; rintro e w2 ⟨rfl, b2⟩; have e2 := heap_alloc_new w2 (.cells #[.int .i64 0, .int .i64 0, .slice none 0 0] 102); have b3 : Below w2.heap.size w2 (w2.alloc (.cells #[.int .i64 0, .int .i64 0, .slice none 0 0] 102)) := (Below.refl _ _).alloc (Nat.le_refl _) _)
        | (refine wpList_store_row rfl 102 (.tmp 8) (.tmp 19) rfl w2.heap.size #[.int .i64 0, .int .i64 0, .slice none 0 0] rfl rfl 102 #[.int .i64 0, .int .i64 0, .slice none 0 0] e2 wsizeHead rfl (by simp [Value.oneCell']) ?_))
      have hM2 := (hM.go b2).go (below_row b3 (Nat.le_refl _) #[.int .i64 0, .int .i64 0, .slice none 0 0])
      go_roundw
      case rel => exact ⟨rfl, ⟨hM2, Or.inr (Or.inl rfl)⟩⟩
      case measure => decide
    · clear hrel
      have c1 := headOf_none wr a1 c1
      go_wp2_with (first
        | (refine wpList_index rfl 98 (.tmp 11) (.tmp 12) rfl _ 1 rfl rfl _ (run_indexT1 _ _ _) ?_)
        | (go_at_call 78; refine c1.mono ?_; rintro e w2 ⟨rfl, b2⟩; have e2 := heap_alloc_new w2 (.cells #[.int .i64 0, .int .i64 0, .slice none 0 0] 102); have b3 : Below w2.heap.size w2 (w2.alloc (.cells #[.int .i64 0, .int .i64 0, .slice none 0 0] 102)) := (Below.refl _ _).alloc (Nat.le_refl _) _)
        | (refine wpList_store_row rfl 102 (.tmp 8) (.tmp 19) rfl w2.heap.size #[.int .i64 0, .int .i64 0, .slice none 0 0] rfl rfl 102 #[.int .i64 0, .int .i64 0, .slice none 0 0] e2 wsizeHead rfl (by simp [Value.oneCell']) ?_))
      have hM2 := (hM.go b2).go (below_row b3 (Nat.le_refl _) #[.int .i64 0, .int .i64 0, .slice none 0 0])
      go_roundw
      case rel => exact ⟨rfl, ⟨hM2, Or.inr (Or.inr rfl)⟩⟩
      case measure => decide
    · clear hrel
      obtain ⟨IH, hIH⟩ : ∃ I : World → Prop, I = fun u => u.heap[w.heap.size + 1 + 1]? = Option.some (.cells #[.int .i64 0, .int .i64 0, .slice none 0 0] 102 (0, 0)) := ⟨_, rfl⟩
      have kL : ∀ u, IH u → (loadVar 102 ⟨w.heap.size + 1 + 1, 0, none⟩).run Try.prog u = .ok (.agg #[.int .i64 0, .int .i64 0, .slice none 0 0]) u := fun u hu => by rw [hIH] at hu; exact run_loadVar_row _ _ _ _ _ (0, 0) _ hu Try.underlying102 rfl wsizeHead
      have hS : IH wr.drew := by rw [hIH]; exact hM.best
      have hst := run_storeVar_row (P := Try.prog) wr.drew (w.heap.size + 1) 102 102 #[.int .i64 0, .int .i64 0, .slice none 0 0] #[.int .i64 0, .int .i64 0, .slice none 0 0] hM.res wsizeHead rfl (by simp [Value.oneCell'])
      have hS2 : IH (wr.drew.setRow (w.heap.size + 1) #[.int .i64 0, .int .i64 0, .slice none 0 0]) := by rw [hIH] at hS ⊢; exact (setRow_other _ _ _ _ (by omega)).trans hS
      have bR : Below w.heap.size w (wr.drew.setRow (w.heap.size + 1) #[.int .i64 0, .int .i64 0, .slice none 0 0]) := below_row hM.below.drew (by omega) _
      have eR := setRow_heap wr.drew (w.heap.size + 1) #[.int .i64 0, .int .i64 0, .slice none 0 0] #[.int .i64 0, .int .i64 0, .slice none 0 0] 102 (0, 0) hM.res
      go_wp2
      refine start_held (S := IH) 4 rfl (by kernel_rfl) (hS) ?_
      simp only [Array.replicate_succ, Array.replicate_zero, List.push_toArray, List.nil_append, List.cons_append]
      refine take_held 0 (by assumption) rfl (by kernel_rfl) (by kernel_rfl) (by kernel_rfl) (fun _ _ _ h => h) (by kernel_rfl) (v := ?v0) ?y0 ?r0
      case y0 => (intro u hu; go_simp; try rfl)
      simp only [Act.put, List.setIfInBounds_toArray, List.set_cons_zero, List.set_cons_succ]
      refine take_held 1 (by assumption) rfl (by kernel_rfl) (by kernel_rfl) (by kernel_rfl) (fun _ _ _ h => h) (by kernel_rfl) (v := .agg #[.int .i64 0, .int .i64 0, .slice none 0 0]) ?y1 ?r1
      case y1 => (intro u hu; exact run_load_op 102 (.tmp 5) rfl (w.heap.size + 1 + 1) _ rfl (kL u hu))
      simp only [Act.put, List.setIfInBounds_toArray, List.set_cons_zero, List.set_cons_succ]
      refine take_held 2 (by assumption) rfl (by kernel_rfl) (by kernel_rfl) (by kernel_rfl) (fun _ _ _ h => h) (by kernel_rfl) (v := ?v2) ?y2 ?r2
      case y2 => (intro u hu; go_simp; try rfl)
      simp only [Act.put, List.setIfInBounds_toArray, List.set_cons_zero, List.set_cons_succ]
      refine store_held 3 rfl (by kernel_rfl) (by kernel_rfl) (wr.drew.setRow (w.heap.size + 1) #[.int .i64 0, .int .i64 0, .slice none 0 0]) (run_store_op 102 (.tmp 3) (.tmp 33) rfl (w.heap.size + 1) _ rfl rfl hst) hS2 ?_
      simp only [Act.put, List.setIfInBounds_toArray, List.set_cons_zero, List.set_cons_succ]
      refine done_held (by kernel_rfl) ?_ _
      go_wp2
      refine bodyPost_ret (results_tmp_cell Try.results51 _ _ (w.heap.size + 1) #[.int .i64 0, .int .i64 0, .slice none 0 0] rfl (run_loadVar_row _ _ _ _ _ (0, 0) _ eR Try.underlying102 rfl wsizeHead)) rfl ?_
      exact ⟨rfl, bR⟩

theorem results_tmp4 {fn : Func} {p q r s : Tmp} (h : fn.results = #[.tmp p, .tmp q, .tmp r, .tmp s]) (tmps : Array Value) (w : World) :
    (results fn tmps).run Try.prog w = .ok (.tuple #[tmps.getD p undef, tmps.getD q undef, tmps.getD r undef, tmps.getD s undef]) w := by
  simp [results, h]
/- mayBe of a head that is none. -/
set_option maxRecDepth 100000 in
set_option maxHeartbeats 1000000 in
theorem mayBe_none (w : World) : Calls Try.prog 52 #[.agg #[.int .i64 0, .int .i64 0, .slice none 0 0]] w fun e w' => e = .returned (.bool false) ∧ Below w.heap.size w w' := by
  have b1 : Below w.heap.size w (w.alloc (.cells #[.int .i64 0, .int .i64 0, .slice none 0 0] 102)) := (Below.refl _ _).alloc (Nat.le_refl _) _
  go_enter Try.func52, Try.ntmps52
  go_wp2
  go_ret
  exact ⟨rfl, b1⟩
theorem fr_set {own own1 : Owns} {w wr : World} (h : Fr own own1 w wr) (N j : Nat) (v : Value) (hN : w.heap.size ≤ N) : Fr own own1 w (wr.setCell ⟨N, j, none⟩ v) :=
  ⟨h.up, h.kept.os, h.kept.tape, h.kept.output, by simpa using h.kept.size, fun k hk hn => (heap_setCell_other wr ⟨N, j, none⟩ k v (by simp only; omega)).trans (h.kept.block k hk hn)⟩
theorem fr_then {S : Nat} {o o1 o2 : Owns} {w0 w w' : World} (h : Fr o o1 w0 w) (f : SFr S o1 o2 w w') (hS : w0.heap.size ≤ S) : Fr o o2 w0 w' :=
  ⟨fun k hk => (f.up k (Nat.lt_of_lt_of_le hk h.kept.size)).trans (h.up k hk), f.os.trans h.kept.os, f.tape.trans h.kept.tape, f.output.trans h.kept.output, Nat.le_trans h.kept.size f.size,
   fun k hk hn => (f.block k (Nat.lt_of_lt_of_le hk h.kept.size) ((h.up k hk).trans hn) (by omega)).trans (h.kept.block k hk hn)⟩
theorem free_set {own : Owns} {w : World} {k : Nat} (h : Free own w k) (N j : Nat) (v : Value) : Free own (w.setCell ⟨N, j, none⟩ v) k := ⟨by simpa using h.1, h.2⟩
/- While Open opens both files: the store and what is told, so far. -/
structure Half (W w : World) (own : Owns) (D S T : Nat) (σ : St) (m : Nat) (cs ts : Array Value) (own1 : Owns) (wr : World) : Prop where
  live : Live W wr own1 D σ m
  fr : Fr own own1 w wr
  freeS : Free own1 wr S
  freeT : Free own1 wr T
  rowS : wr.heap[S]? = Option.some (.cells cs 97 (0, 0))
  rowT : wr.heap[T]? = Option.some (.cells ts 98 (0, 0))
  newS : w.heap.size ≤ S
  newT : w.heap.size ≤ T
  ne : S ≠ T
theorem Half.go {W w wr wr' : World} {own own1 own2 : Owns} {D S T : Nat} {σ σ' : St} {m m' : Nat} {cs ts : Array Value} (h : Half W w own D S T σ m cs ts own1 wr) (hl : Live W wr' own2 D σ' m') (hf : Fr own1 own2 wr wr') : Half W w own D S T σ' m' cs ts own2 wr' :=
  ⟨hl, h.fr.trans hf, (h.freeS.go hf).1, (h.freeT.go hf).1, (h.freeS.go hf).2.trans h.rowS, (h.freeT.go hf).2.trans h.rowT, h.newS, h.newT, h.ne⟩
theorem Half.setS {W w wr : World} {own own1 : Owns} {D S T : Nat} {σ : St} {m : Nat} {cs ts : Array Value} (h : Half W w own D S T σ m cs ts own1 wr) (hW : W.heap.size ≤ w.heap.size) (j : Nat) (v : Value) (cs' : Array Value) (e : cs.setIfInBounds j v = cs') : Half W w own D S T σ m cs' ts own1 (wr.setCell ⟨S, j, none⟩ v) :=
  ⟨live_set h.live (Nat.le_trans hW h.newS) h.freeS.2 j v, fr_set h.fr S j v h.newS, free_set h.freeS _ _ _, free_set h.freeT _ _ _, by rw [← e]; exact heap_setCell_same _ _ _ _ _ _ h.rowS, (heap_setCell_other wr ⟨S, j, none⟩ T v (fun e => h.ne e.symm)).trans h.rowT, h.newS, h.newT, h.ne⟩
theorem Half.setT {W w wr : World} {own own1 : Owns} {D S T : Nat} {σ : St} {m : Nat} {cs ts : Array Value} (h : Half W w own D S T σ m cs ts own1 wr) (hW : W.heap.size ≤ w.heap.size) (j : Nat) (v : Value) (ts' : Array Value) (e : ts.setIfInBounds j v = ts') : Half W w own D S T σ m cs ts' own1 (wr.setCell ⟨T, j, none⟩ v) :=
  ⟨live_set h.live (Nat.le_trans hW h.newT) h.freeT.2 j v, fr_set h.fr T j v h.newT, free_set h.freeS _ _ _, free_set h.freeT _ _ _, (heap_setCell_other wr ⟨T, j, none⟩ S v h.ne).trans h.rowS, by rw [← e]; exact heap_setCell_same _ _ _ _ _ _ h.rowT, h.newS, h.newT, h.ne⟩
theorem Half.cellS {W w wr : World} {own own1 : Owns} {D S T : Nat} {σ : St} {m : Nat} {cs ts : Array Value} (h : Half W w own D S T σ m cs ts own1 wr) (j : Nat) : wr.cell? ⟨S, j, none⟩ = cs[j]? ∧ wr.frozen? ⟨S, j, none⟩ = false := ⟨cell_of_row _ _ _ _ _ _ h.rowS, frozen_of_row wr S j _ _ h.rowS⟩
theorem Half.cellT {W w wr : World} {own own1 : Owns} {D S T : Nat} {σ : St} {m : Nat} {cs ts : Array Value} (h : Half W w own D S T σ m cs ts own1 wr) (j : Nat) : wr.cell? ⟨T, j, none⟩ = ts[j]? ∧ wr.frozen? ⟨T, j, none⟩ = false := ⟨cell_of_row _ _ _ _ _ _ h.rowT, frozen_of_row wr T j _ _ h.rowT⟩
theorem log_other {own : Owns} {wr : World} {L D N : Nat} {f : Int} (h : LogIs own wr L D f) (hN : N ≠ L) (j : Nat) (v : Value) : LogIs own (wr.setCell ⟨N, j, none⟩ v) L D f := log_set h (fun e => hN e.symm) j v
/- A log's block is no store's and not what is told. -/
theorem log_apart {own : Owns} {wr : World} {L D N : Nat} {f : Int} {cs : Array Value} {t : TypeId} (h : LogIs own wr L D f) (hr : wr.heap[N]? = Option.some (.cells cs t (0, 0))) (hc : cs[1]? ≠ Option.some (.int .i64 f)) : N ≠ L := by
  rintro rfl
  exact hc ((cell_of_row wr N 1 cs t _ hr).symm.trans h.file)

set_option maxRecDepth 100000 in
set_option maxHeartbeats 8000000 in
theorem open_new {W w : World} {own : Owns} {D : Nat} {σ : St} {m : Nat} (h : Live W w own D σ m) (hm : m + 12 < 4194304) (h0 : now σ 0 = []) (h1 : now σ 1 = []) :
    Calls Try.prog 21 #[.pointer (Option.some ⟨D, 0, none⟩)] w fun e w' => ∃ S L own', e = .returned (.tuple #[.pointer (Option.some ⟨S, 0, none⟩), .slice none 0 0, .slice none 0 0, .int .i64 0]) ∧
      StoreIs W w' own' D S L (beganSt σ) (m + 12) 0 1 0 0 ∧ Fr own own' w w' ∧ w.heap.size ≤ S := by
  have hd0 : Wal.Done [] [] := ⟨trivial, rfl⟩
  have hO0 : openSt σ 0 (Wal.stop 0 []) = σ := by unfold openSt; rw [if_neg (by rw [h0]; decide)]
  have hO1 : openSt σ 1 (Wal.stop 0 []) = σ := by unfold openSt; rw [if_neg (by rw [h1]; decide)]
  have bW := h.below.size
  have hH0 : Half W w own D w.heap.size (w.heap.size + 1) σ m #[.pointer none, .pointer none, .int .i64 0, .int .i64 0, .int .i64 0, .int .i64 0] #[.slice none 0 0, .slice none 0 0] own ((w.alloc (.cells #[.pointer none, .pointer none, .int .i64 0, .int .i64 0, .int .i64 0, .int .i64 0] 97)).alloc (.cells #[.slice none 0 0, .slice none 0 0] 98)) := by
    have b1 : Below w.heap.size w (w.alloc (.cells #[.pointer none, .pointer none, .int .i64 0, .int .i64 0, .int .i64 0, .int .i64 0] 97)) := (Below.refl _ _).alloc (Nat.le_refl _) _
    have b2 : Below w.heap.size w ((w.alloc (.cells #[.pointer none, .pointer none, .int .i64 0, .int .i64 0, .int .i64 0, .int .i64 0] 97)).alloc (.cells #[.slice none 0 0, .slice none 0 0] 98)) := b1.alloc (by simp) _
    have sz : (w.alloc (.cells #[.pointer none, .pointer none, .int .i64 0, .int .i64 0, .int .i64 0, .int .i64 0] 97)).heap.size = w.heap.size + 1 := by simp
    refine ⟨h.later b2, Fr.below b2, h.free (Nat.le_refl _) (by simp; try omega), h.free (by omega) (by simp; try omega), ?_, ?_, Nat.le_refl _, by omega, by omega⟩
    · rw [((Below.refl _ _).alloc (Nat.le_refl _) _).block _ (by simp)]
      exact heap_alloc_new _ _
    · rw [← sz]
      exact heap_alloc_new _ _
  have sT : (w.alloc (.cells #[.pointer none, .pointer none, .int .i64 0, .int .i64 0, .int .i64 0, .int .i64 0] 97)).heap.size = w.heap.size + 1 := by simp
  generalize hS0 : w.heap.size = S at hH0 sT
  generalize hwm : (w.alloc (.cells #[.pointer none, .pointer none, .int .i64 0, .int .i64 0, .int .i64 0, .int .i64 0] 97)).alloc (.cells #[.slice none 0 0, .slice none 0 0] 98) = wm at *
  go_enter Try.func21, Try.ntmps21
  go_wp2_with fail
  clear hwm
  have hNE : ∀ (x : Option Addr) (k : Int), (.pointer x : Value) ≠ .int .i64 k := fun x k e => by cases e
  go_loopw [18] (fun j wr => Hid ((j = .int .i64 0 ∧ ∃ own1, Half W w own D S (S + 1) σ m #[.pointer none, .pointer none, .int .i64 0, .int .i64 0, .int .i64 0, .int .i64 0] #[.slice none 0 0, .slice none 0 0] own1 wr) ∨
    (j = .int .i64 1 ∧ ∃ own1 L0 ta tc, Half W w own D S (S + 1) σ (m + 3) #[.pointer (Option.some ⟨L0, 0, none⟩), .pointer none, .int .i64 0, .int .i64 0, .int .i64 0, .int .i64 0] #[.slice ta 0 tc, .slice none 0 0] own1 wr ∧ LogIs own1 wr L0 D (0 : Nat) ∧ S ≠ L0 ∧ S + 1 ≠ L0) ∨
    (j = .int .i64 2 ∧ ∃ own1 L0 L1 t0 d0 t1 d1, Half W w own D S (S + 1) σ (m + 6) #[.pointer (Option.some ⟨L0, 0, none⟩), .pointer (Option.some ⟨L1, 0, none⟩), .int .i64 0, .int .i64 0, .int .i64 0, .int .i64 0] #[.slice t0 0 d0, .slice t1 0 d1] own1 wr ∧ LogIs own1 wr L0 D (0 : Nat) ∧ S ≠ L0 ∧ LogIs own1 wr L1 D (1 : Nat) ∧ S ≠ L1))) (fun j _ => 2 - (intOf j).toNat)
  case atStart => exact Or.inl ⟨rfl, own, hH0⟩
  case round =>
    clear hH0
    rcases hrel.out with ⟨rfl, own1, hH⟩ | ⟨rfl, own1, L0, ta0, tc0, hH, lg1, n1, n2⟩ | ⟨rfl, own1, L0, L1, t0, d0, t1, d1, hH, lg0, n0, lg1, n1⟩
    · clear hrel
      have c1 := Wal.open_any hH.live (by omega) 0 (by decide) [] h0 [] hd0
      rw [hO0] at c1
      go_wp2_with (first
        | (go_at_call 50; refine c1.mono ?_; rintro e w2 ⟨own2, Lx, ta, tc, ps, rfl, h2, f2, lg2, t2, hp2⟩; have H2 := hH.go h2 f2; have yS := H2.cellS 0; have yT := H2.cellT 0; simp only [List.getElem?_toArray, List.getElem?_cons_zero, List.getElem?_cons_succ] at yS yT; obtain ⟨yS1, yS2⟩ := yS; obtain ⟨yT1, yT2⟩ := yT))
      have n1 : S ≠ Lx := log_apart lg2 H2.rowS (by simp)
      have n2 : S + 1 ≠ Lx := log_apart lg2 H2.rowT (by simp)
      have H3 := (H2.setS bW 0 (.pointer (Option.some ⟨Lx, 0, none⟩)) _ rfl).setT bW 0 (.slice ta 0 tc) _ rfl
      go_roundw
      case rel => exact Or.inr (Or.inl ⟨rfl, own2, Lx, ta, tc, H3, log_other (log_other lg2 n1 _ _) n2 _ _, n1, n2⟩)
      case measure => decide
    · clear hrel
      have c1 := Wal.open_any hH.live (by omega) 1 (by decide) [] h1 [] hd0
      rw [hO1] at c1
      go_wp2_with (first
        | (go_at_call 50; refine c1.mono ?_; rintro e w2 ⟨own2, Lx, ta, tc, ps, rfl, h2, f2, lg2, t2, hp2⟩; have H2 := hH.go h2 f2; have yS := H2.cellS 1; have yT := H2.cellT 1; simp only [List.getElem?_toArray, List.getElem?_cons_zero, List.getElem?_cons_succ] at yS yT; obtain ⟨yS1, yS2⟩ := yS; obtain ⟨yT1, yT2⟩ := yT))
      have m1 : S ≠ Lx := log_apart lg2 H2.rowS (by simp)
      have m2 : S + 1 ≠ Lx := log_apart lg2 H2.rowT (by simp)
      have H3 := (H2.setS bW 1 (.pointer (Option.some ⟨Lx, 0, none⟩)) _ rfl).setT bW 1 (.slice ta 0 tc) _ rfl
      have lg0 := log_other (log_other (lg1.go f2) n1 1 (.pointer (Option.some ⟨Lx, 0, none⟩))) n2 1 (.slice ta 0 tc)
      go_roundw
      case rel => exact Or.inr (Or.inr ⟨rfl, own2, L0, Lx, ta0, tc0, ta, tc, H3, lg0, n1, log_other (log_other lg2 m1 _ _) m2 _ _, m1⟩)
      case measure => decide
    · clear hrel
      have c1 := newest_none wr t0 t1 d0 d1
      have yT0 := (hH.cellT 0).1
      have yT1 := (hH.cellT 1).1
      simp only [List.getElem?_toArray, List.getElem?_cons_zero, List.getElem?_cons_succ] at yT0 yT1
      have sI : StoreIs W wr own1 D S (fun i => if i = 0 then L0 else L1) σ (m + 6) 0 0 0 0 := by
        refine ⟨hH.live, by omega, hH.freeS, hH.rowS, fun i hi => ?_, fun i hi => ?_, by decide⟩
        · rcases (show i = 0 ∨ i = 1 by omega) with rfl | rfl
          · exact lg0
          · exact lg1
        · rcases (show i = 0 ∨ i = 1 by omega) with rfl | rfl
          · exact fun e => n0 e.symm
          · exact fun e => n1 e.symm
      have frH := hH.fr
      clear hH
      go_wp2_with (first
        | (go_at_call 53; refine (begin_any sI4 (by omega)).mono ?_; rintro e w5 ⟨rfl, own5, s5, f5⟩)
        | (go_at_call 52; refine (mayBe_none _).mono ?_; rintro e w4 ⟨rfl, b4⟩; have sI4 := (sI.later b3).later b4)
        | (refine wpList_load_row rfl 102 (.tmp 13) rfl w2.heap.size rfl 102 #[.int .i64 0, .int .i64 0, .slice none 0 0] (0, 0) _ (setRow_heap _ _ _ _ _ _ e2) Try.underlying102 rfl wsizeHead ?_)
        | (refine wpList_store_row rfl 102 (.tmp 13) (.tmp 45) rfl w2.heap.size #[.int .i64 0, .int .i64 0, .slice none 0 0] rfl rfl 102 #[.int .i64 0, .int .i64 0, .slice none 0 0] e2 wsizeHead rfl (by simp [Value.oneCell']) ?_)
        | (go_at_call 51; refine c1.mono ?_; rintro e w2 ⟨rfl, b2⟩; have e2 := heap_alloc_new w2 (.cells #[.int .i64 0, .int .i64 0, .slice none 0 0] 102); have b3 : Below wr.heap.size wr ((w2.alloc (.cells #[.int .i64 0, .int .i64 0, .slice none 0 0] 102)).setRow w2.heap.size #[.int .i64 0, .int .i64 0, .slice none 0 0]) := below_row (b2.alloc b2.size _) b2.size _))
      refine bodyPost_ret (results_tmp4 Try.results21 _ _) rfl ?_
      have frE := fr_then ((frH.trans (Fr.below b3)).trans (Fr.below b4)) f5 (by omega)
      exact ⟨S, _, own5, rfl, s5, frE, Nat.le_refl _⟩
end Go.Proofs.Yticfkdiggiogdaa.Store
