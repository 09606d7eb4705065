/-
  A store in memory: the disk beneath it, its two logs, its numbers; and what a call leaves of all else.
-/
import Derived.Test.YticfkdiggiogdaaStoreConcat
import Derived.Test.YticfkdiggiogdaaWalOrder
namespace Go.Proofs.Yticfkdiggiogdaa.Store
set_option linter.unusedVariables false
set_option linter.unusedSimpArgs false
open Go Go.RowKit Go.Shelf Go.Proofs
open Go.Proofs.Yticfkdiggiogdaa.Disk (Row getD_in ret_int add_add DiskIs Kept St now setSt owns_row owns_same)
open Go.Proofs.Yticfkdiggiogdaa.Wal (Owns Fr Live Free LogIs cell_block rec setSt_at setSt_two appSt now_app)
open Go.Proofs.Yticfkdiggiogdaa.Codec (num I64 Made Mine)

/- What a call that may turn the disk, and the block S, leaves of all else. -/
structure SFr (S : Nat) (own own' : Owns) (w w' : World) : Prop where
  up : ∀ k, k < w.heap.size → own' k = own k
  os : w'.os = w.os
  tape : w'.tape = w.tape
  output : w'.output = w.output
  size : w.heap.size ≤ w'.heap.size
  block : ∀ k, k < w.heap.size → own k = none → k ≠ S → w'.heap[k]? = w.heap[k]?
theorem SFr.refl (S : Nat) (own : Owns) (w : World) : SFr S own own w w := ⟨fun _ _ => rfl, rfl, rfl, rfl, Nat.le_refl _, fun _ _ _ _ => rfl⟩
theorem SFr.of (S : Nat) {own own' : Owns} {w w' : World} (f : Fr own own' w w') : SFr S own own' w w' := ⟨f.up, f.kept.os, f.kept.tape, f.kept.output, f.kept.size, fun k hk hn _ => f.kept.block k hk hn⟩
theorem SFr.trans {S : Nat} {o o1 o2 : Owns} {w w1 w2 : World} (h : SFr S o o1 w w1) (k : SFr S o1 o2 w1 w2) : SFr S o o2 w w2 :=
  ⟨fun i hi => (k.up i (Nat.lt_of_lt_of_le hi h.size)).trans (h.up i hi), k.os.trans h.os, k.tape.trans h.tape, k.output.trans h.output, Nat.le_trans h.size k.size,
   fun i hi hn hs => (k.block i (Nat.lt_of_lt_of_le hi h.size) ((h.up i hi).trans hn) hs).trans (h.block i hi hn hs)⟩
theorem SFr.below (S : Nat) {o : Owns} {w w' : World} (h : Below w.heap.size w w') : SFr S o o w w' := SFr.of S (Fr.below h)

def cellsOf (L : Nat → Nat) (c : Nat) (g f n : Int) : Array Value := #[.pointer (Option.some ⟨L 0, 0, none⟩), .pointer (Option.some ⟨L 1, 0, none⟩), .int .i64 c, .int .i64 g, .int .i64 f, .int .i64 n]
structure StoreIs (W w : World) (own : Owns) (D S : Nat) (L : Nat → Nat) (σ : St) (m c : Nat) (g f n : Int) : Prop where
  live : Live W w own D σ m
  new : W.heap.size ≤ S
  free : Free own w S
  row : w.heap[S]? = Option.some (.cells (cellsOf L c g f n) 97 (0, 0))
  log : ∀ i, i < 2 → LogIs own w (L i) D i
  ne : ∀ i, i < 2 → L i ≠ S
  two : c < 2
theorem StoreIs.fr {W w w' : World} {own own' : Owns} {D S : Nat} {L : Nat → Nat} {σ σ' : St} {m m' c : Nat} {g f n : Int} (h : StoreIs W w own D S L σ m c g f n) (hl : Live W w' own' D σ' m') (hf : Fr own own' w w') : StoreIs W w' own' D S L σ' m' c g f n :=
  ⟨hl, h.new, (h.free.go hf).1, (h.free.go hf).2.trans h.row, fun i hi => (h.log i hi).go hf, h.ne, h.two⟩
theorem StoreIs.later {W w w' : World} {own : Owns} {D S : Nat} {L : Nat → Nat} {σ : St} {m c : Nat} {g f n : Int} (h : StoreIs W w own D S L σ m c g f n) (hb : Below w.heap.size w w') : StoreIs W w' own D S L σ m c g f n :=
  h.fr (h.live.later hb) (Fr.below hb)
theorem live_set {W w : World} {own : Owns} {D S : Nat} {σ : St} {m : Nat} (h : Live W w own D σ m) (hS : W.heap.size ≤ S) (hf : own S = none) (j : Nat) (v : Value) : Live W (w.setCell ⟨S, j, none⟩ v) own D σ m := by
  obtain ⟨F, hd, hs⟩ := h.disk
  refine ⟨⟨F, hd.same (fun k hk => heap_setCell_other w ⟨S, j, none⟩ k v (fun e => hk (e ▸ hf))) (by simp), hs⟩, h.base, h.below.trans ⟨rfl, rfl, rfl, by simp, fun k hk => heap_setCell_other w ⟨S, j, none⟩ k v (by simp only; omega)⟩⟩
theorem sfr_set {own : Owns} (w : World) (S j : Nat) (v : Value) : SFr S own own w (w.setCell ⟨S, j, none⟩ v) :=
  ⟨fun _ _ => rfl, rfl, rfl, rfl, by simp, fun k _ _ hk => heap_setCell_other w ⟨S, j, none⟩ k v hk⟩
theorem log_set {own : Owns} {w : World} {L D S : Nat} {f : Int} (h : LogIs own w L D f) (hn : L ≠ S) (j : Nat) (v : Value) : LogIs own (w.setCell ⟨S, j, none⟩ v) L D f := by
  have e := heap_setCell_other w ⟨S, j, none⟩ L v hn
  exact ⟨⟨by simpa using h.free.1, h.free.2⟩, (cell_block (p := ⟨L, 0, none⟩) e).trans h.disk, (cell_block (p := ⟨L, 1, none⟩) e).trans h.file⟩
theorem StoreIs.set {W w : World} {own : Owns} {D S : Nat} {L : Nat → Nat} {σ : St} {m c c' : Nat} {g f n g' f' n' : Int} (h : StoreIs W w own D S L σ m c g f n) (j : Nat) (v : Value) (hc : c' < 2)
    (e : (cellsOf L c g f n).setIfInBounds j v = cellsOf L c' g' f' n') : StoreIs W (w.setCell ⟨S, j, none⟩ v) own D S L σ m c' g' f' n' :=
  ⟨live_set h.live h.new h.free.2 j v, h.new, ⟨by simpa using h.free.1, h.free.2⟩, by rw [← e]; exact heap_setCell_same _ _ _ _ _ _ h.row, fun i hi => log_set (h.log i hi) (h.ne i hi) j v, h.ne, hc⟩
theorem StoreIs.cell {W w : World} {own : Owns} {D S : Nat} {L : Nat → Nat} {σ : St} {m c : Nat} {g f n : Int} (h : StoreIs W w own D S L σ m c g f n) (j : Nat) : w.cell? ⟨S, j, none⟩ = (cellsOf L c g f n)[j]? := cell_of_row _ _ _ _ _ _ h.row
theorem StoreIs.frozen {W w : World} {own : Owns} {D S : Nat} {L : Nat → Nat} {σ : St} {m c : Nat} {g f n : Int} (h : StoreIs W w own D S L σ m c g f n) (j : Nat) : w.frozen? ⟨S, j, none⟩ = false := frozen_of_row w S j _ _ h.row
theorem StoreIs.drewN {W w : World} {own : Owns} {D S : Nat} {L : Nat → Nat} {σ : St} {m c : Nat} {g f n : Int} (h : StoreIs W w own D S L σ m c g f n) (k : Nat) : StoreIs W (w.drewN k) own D S L σ m c g f n := h.later ⟨rfl, rfl, rfl, Nat.le_refl _, fun _ _ => rfl⟩
theorem StoreIs.drew {W w : World} {own : Owns} {D S : Nat} {L : Nat → Nat} {σ : St} {m c : Nat} {g f n : Int} (h : StoreIs W w own D S L σ m c g f n) : StoreIs W w.drew own D S L σ m c g f n := h.later ⟨rfl, rfl, rfl, Nat.le_refl _, fun _ _ => rfl⟩
theorem StoreIs.more {W w : World} {own : Owns} {D S : Nat} {L : Nat → Nat} {σ : St} {m m' c : Nat} {g f n : Int} (h : StoreIs W w own D S L σ m c g f n) (hm : m ≤ m') : StoreIs W w own D S L σ m' c g f n := ⟨h.live.more hm, h.new, h.free, h.row, h.log, h.ne, h.two⟩

/- One operation that stands alone and stores. -/
theorem store_held {P : Program} {S : World → Prop} {Q : Exit → Act → World → Prop} {md : Region.Mode} {l : List Oper} (i : Nat) {o : Oper} {fuel : Nat} {listed : Array Bool} {a : Act} {w : World} (hi : Wal.nth l i = Option.some o)
    (hr : Region.ready md l.toArray listed = [i]) (hw : Region.wanted o (yielded l.toArray a.tmps) = true) (w' : World) (hrun : (execOp a.eval o).run P w = .ok .skip w') (hS : S w')
    (h : wpAnyH P md l.toArray Q S fuel (listed.setIfInBounds i true) (a.put o.dst undef) w') : wpAnyH P md l.toArray Q S (fuel + 1) listed a w := by
  refine wpAnyH_ready hr (by simp) (AllReadyH.cons ((Wal.nth_eq l i).trans hi) ?_ AllReadyH.nil)
  intro K' hK
  exact Wal.skip_in hK hw w' hrun hS h
/- One operation that stands alone and makes memory. -/
theorem value_held {P : Program} {S : World → Prop} {Q : Exit → Act → World → Prop} {md : Region.Mode} {l : List Oper} (i : Nat) {o : Oper} {fuel : Nat} {listed : Array Bool} {a : Act} {w : World} (hi : Wal.nth l i = Option.some o)
    (hr : Region.ready md l.toArray listed = [i]) (hw : Region.wanted o (yielded l.toArray a.tmps) = true) (v : Value) (w' : World) (hrun : (execOp a.eval o).run P w = .ok (.value v) w') (hS : S w')
    (h : wpAnyH P md l.toArray Q S fuel (listed.setIfInBounds i true) (a.put o.dst v) w') : wpAnyH P md l.toArray Q S (fuel + 1) listed a w := by
  refine wpAnyH_ready hr (by simp) (AllReadyH.cons ((Wal.nth_eq l i).trans hi) ?_ AllReadyH.nil)
  intro K' hK
  exact Wal.value_in hK hw v w' hrun hS h

theorem run_store_op {o : Oper} {a : Act} {w w' : World} (ty : TypeId) (x y : Operand) (ho : o.op = .store ty x y) (g : Nat) (cells : Array Value) (hx : a.eval x = .pointer (Option.some ⟨g, 0, none⟩)) (hy : a.eval y = .agg cells)
    (h : (storeVar ty ⟨g, 0, none⟩ (.agg cells)).run Try.prog w = .ok () w') : (execOp a.eval o).run Try.prog w = .ok .skip w' := by
  unfold execOp
  simp only [ho, hx, hy, Instr.storeAt, Instr.sureAddr, Sem.run_bind, Sem.run_pure, Result.andThen_ok, h]

/- A file that is cut to no bytes, for certain. -/
set_option maxHeartbeats 1000000 in
theorem empty_any {W w : World} {own : Owns} {D L i : Nat} {σ : St} {m : Nat} (h : Live W w own D σ m) (hm : m + 2 < 4194304) (hl : LogIs own w L D i) (hi : i < 2) :
    Calls Try.prog 58 #[.pointer (Option.some ⟨L, 0, none⟩)] w fun e w' => e = .returned (.tuple #[]) ∧ ∃ own', Live W w' own' D (setSt σ i ([], [])) (m + 2) ∧ Fr own own' w w' := by
  have c1 := Wal.erase_any h (by omega) hl hi
  have c2 := fun (w1 : World) (own1 : Owns) (h1 : Live W w1 own1 D (setSt σ i ((σ i).1, (σ i).2 ++ [.inr 0])) (m + 1)) (l1 : LogIs own1 w1 L D i) => Wal.sync_any h1 (by omega) l1 hi
  go_enter Try.func58, Try.ntmps58
  go_wp2_with (first
    | (go_at_call 64; refine c1.mono ?_; rintro e w1 ⟨rfl, own1, h1, f1⟩)
    | (go_at_call 62; refine (c2 w1 own1 h1 (hl.go f1)).mono ?_; rintro e w2 ⟨rfl, own2, h2, f2⟩))
  go_end0
  refine ⟨rfl, own2, ?_, f1.trans f2⟩
  have e1 : now (setSt σ i ((σ i).1, (σ i).2 ++ [.inr 0])) i = [] := by unfold now; rw [setSt_at, Disk.run_append, Disk.run_cut]; rfl
  rw [e1, setSt_two] at h2
  exact h2
end Go.Proofs.Yticfkdiggiogdaa.Store
