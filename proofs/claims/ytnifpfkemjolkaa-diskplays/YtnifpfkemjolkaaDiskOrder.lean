/-
  A statement that leaves its order open, step by step: what reads the same in every later world is taken first; what stands alone is done by its contract.
-/
import Derived.Test.YtnifpfkemjolkaaDiskFacts
namespace Go.Proofs.Ytnifpfkemjolkaa.Disk
set_option linter.unusedVariables false
set_option linter.unusedSimpArgs false
open Go Go.RowKit

/- The class: nothing of W is turned. -/
def Since (W w : World) : Prop := Below W.heap.size W w
theorem Since.refl (W : World) : Since W W := Below.refl _ _
theorem Since.drew {W w : World} (h : Since W w) : Since W w.drew := Below.drew h
theorem Since.on {W w w' : World} (h : Since W w) (hb : Below w.heap.size w w') : Since W w' := Below.trans h (hb.mono (Below.size h))

/- The operation of that number: it comes written out. -/
def nth : List Oper → Nat → Option Oper
  | [], _ => none
  | o :: _, 0 => some o
  | _ :: l, n + 1 => nth l n
theorem nth_eq : ∀ (l : List Oper) (i : Nat), l.toArray[i]? = nth l i
  | [], _ => rfl
  | o :: l, 0 => by simp [nth]
  | o :: l, n + 1 => by
    have := nth_eq l n
    simp only [List.getElem?_toArray] at this ⊢
    rw [List.getElem?_cons_succ, this]
    rfl
theorem start_since {P : Program} {Q : Exit → Act → World → Prop} {id : Nat} {a : Act} {w : World} {l : List Oper} (N : Nat) (hN : l.length = N) (hm : P.follows .mixedOrders = true)
    (h : wpAnyH P .any l.toArray Q (Since w) N (Array.replicate N false) a w.drew) : (Code.region id l.toArray true).wp P Q a w := by
  subst hN
  exact wp_region_held_drew (S := Since w) hm (Since.refl w).drew fun _ => by simpa using h
theorem take_since {P : Program} {W : World} {Q : Exit → Act → World → Prop} {md : Region.Mode} {l : List Oper} (i : Nat) {oi : Oper} {v : Value} {fuel : Nat} {listed : Array Bool} {a : Act} {w : World} (hS : Since W w) (hi : nth l i = some oi)
    (hs : Region.noSelect l.toArray = true) (hf : Region.free md l.toArray listed i = true) (hr : (Region.ready md l.toArray listed).contains i = true) (hQ : ∀ c a w, Q (.panic c) (a.put oi.dst v) w → Q (.panic c) a w)
    (hw : Region.wanted oi (yielded l.toArray a.tmps) = true) (hy : ∀ w, Since W w → (execOp a.eval oi).run P w = .ok (.value v) w)
    (h : wpAnyH P md l.toArray Q (Since W) fuel (listed.setIfInBounds i true) (a.put oi.dst v) w) : wpAnyH P md l.toArray Q (Since W) (fuel + 1) listed a w :=
  wpAnyH_take ((nth_eq l i).trans hi) hs hf hr hQ (Or.inl ⟨hw, hy⟩) hS h
/- One operation that stands alone: a call, by its contract. -/
theorem call_since {P : Program} {W : World} {Q : Exit → Act → World → Prop} {md : Region.Mode} {l : List Oper} (i : Nat) {o : Oper} {fuel : Nat} {listed : Array Bool} {a : Act} {w : World} (hi : nth l i = some o)
    (hr : Region.ready md l.toArray listed = [i]) (hw : Region.wanted o (yielded l.toArray a.tmps) = true) (f : FuncId) (vals : Array Value) (hrun : (execOp a.eval o).run P w = .ok (.enter f vals) w) (R : Value → World → Prop)
    (hc : Calls P f vals w fun e w' => ∃ v, e = .returned v ∧ R v w') (h : ∀ v w', R v w' → Since W w' ∧ wpAnyH P md l.toArray Q (Since W) fuel (listed.setIfInBounds i true) (a.put o.dst v) w') : wpAnyH P md l.toArray Q (Since W) (fuel + 1) listed a w := by
  refine wpAnyH_ready hr (by simp) (AllReadyH.cons ((nth_eq l i).trans hi) ?_ AllReadyH.nil)
  intro K' hK
  rw [if_pos hw]
  unfold Oper.wp
  rw [hrun]
  refine Calls.mono hc ?_
  rintro e w' ⟨v, rfl, hR⟩
  exact hK.out _ _ (h v w' hR).1 fun _ => (h v w' hR).2
/- One operation that stands alone and reads. -/
theorem read_since {P : Program} {W : World} {Q : Exit → Act → World → Prop} {md : Region.Mode} {l : List Oper} (i : Nat) {o : Oper} {fuel : Nat} {listed : Array Bool} {a : Act} {w : World} (hi : nth l i = some o)
    (hr : Region.ready md l.toArray listed = [i]) (hw : Region.wanted o (yielded l.toArray a.tmps) = true) (v : Value) (hrun : (execOp a.eval o).run P w = .ok (.value v) w) (hS : Since W w)
    (h : wpAnyH P md l.toArray Q (Since W) fuel (listed.setIfInBounds i true) (a.put o.dst v) w) : wpAnyH P md l.toArray Q (Since W) (fuel + 1) listed a w := by
  refine wpAnyH_ready hr (by simp) (AllReadyH.cons ((nth_eq l i).trans hi) ?_ AllReadyH.nil)
  intro K' hK
  rw [if_pos hw]
  unfold Oper.wp
  rw [hrun]
  exact hK.out _ _ hS fun _ => h
theorem done_since {P : Program} {W : World} {Q : Exit → Act → World → Prop} {md : Region.Mode} {l : List Oper} {listed : Array Bool} {a : Act} {w : World} (hr : Region.ready md l.toArray listed = []) (h : Q .normal a w) (fuel : Nat) : wpAnyH P md l.toArray Q (Since W) fuel listed a w :=
  wpAnyH_done hr h fuel

theorem held_more {P : Program} {Q : Exit → Act → World → Prop} {md : Region.Mode} {ops : Array Oper} {S S' : World → Prop} (hS : ∀ w, S' w → S w) : ∀ (fuel : Nat) (listed : Array Bool) (a : Act) (w : World), wpAnyH P md ops Q S' fuel listed a w → wpAnyH P md ops Q S fuel listed a w
  | 0, _, _, _, h => h
  | fuel + 1, _, _, _, h => ⟨h.1, fun i hi => wpOp_mono (fun a' w' h' => ⟨hS _ h'.1, held_more hS fuel _ a' w' h'.2⟩) (h.2 i hi)⟩
/- From here on no world but those since V comes up. -/
theorem rebase {P : Program} {W V : World} {Q : Exit → Act → World → Prop} {md : Region.Mode} {ops : Array Oper} {fuel : Nat} {listed : Array Bool} {a : Act} {w : World} (h : Since W V) (hw : wpAnyH P md ops Q (Since V) fuel listed a w) : wpAnyH P md ops Q (Since W) fuel listed a w :=
  held_more (fun u hu => h.on hu) fuel listed a w hw
theorem call_in {P : Program} {W : World} {Q : Exit → Act → World → Prop} {md : Region.Mode} {l : List Oper} {o : Oper} {fuel : Nat} {listed : Array Bool} {a : Act} {w : World} {E : Prop} {K' : Act → World → Prop} (hK : Shut (∀ a w, Since W w → (Since W w → wpAnyH P md l.toArray Q (Since W) fuel listed a w) → K' a w))
    (hw : Region.wanted o (yielded l.toArray a.tmps) = true) (f : FuncId) (vals : Array Value) (hrun : (execOp a.eval o).run P w = .ok (.enter f vals) w) (R : Value → World → Prop)
    (hc : Calls P f vals w fun e w' => ∃ v, e = .returned v ∧ R v w') (h : ∀ v w', R v w' → Since W w' ∧ wpAnyH P md l.toArray Q (Since W) fuel listed (a.put o.dst v) w') : if Region.wanted o (yielded l.toArray a.tmps) = true then Oper.wp P o a w K' Q else E := by
  rw [if_pos hw]
  unfold Oper.wp
  rw [hrun]
  refine Calls.mono hc ?_
  rintro e w' ⟨v, rfl, hR⟩
  exact hK.out _ _ (h v w' hR).1 fun _ => (h v w' hR).2
theorem value_in {P : Program} {W : World} {Q : Exit → Act → World → Prop} {md : Region.Mode} {l : List Oper} {o : Oper} {fuel : Nat} {listed : Array Bool} {a : Act} {w : World} {E : Prop} {K' : Act → World → Prop} (hK : Shut (∀ a w, Since W w → (Since W w → wpAnyH P md l.toArray Q (Since W) fuel listed a w) → K' a w))
    (hw : Region.wanted o (yielded l.toArray a.tmps) = true) (v : Value) (w' : World) (hrun : (execOp a.eval o).run P w = .ok (.value v) w') (hS : Since W w') (h : wpAnyH P md l.toArray Q (Since W) fuel listed (a.put o.dst v) w') : if Region.wanted o (yielded l.toArray a.tmps) = true then Oper.wp P o a w K' Q else E := by
  rw [if_pos hw]
  unfold Oper.wp
  rw [hrun]
  exact hK.out _ _ hS fun _ => h
theorem skip_in {P : Program} {W : World} {Q : Exit → Act → World → Prop} {md : Region.Mode} {l : List Oper} {o : Oper} {fuel : Nat} {listed : Array Bool} {a : Act} {w : World} {E : Prop} {K' : Act → World → Prop} (hK : Shut (∀ a w, Since W w → (Since W w → wpAnyH P md l.toArray Q (Since W) fuel listed a w) → K' a w))
    (hw : Region.wanted o (yielded l.toArray a.tmps) = true) (w' : World) (hrun : (execOp a.eval o).run P w = .ok .skip w') (hS : Since W w') (h : wpAnyH P md l.toArray Q (Since W) fuel listed (a.put o.dst undef) w') : if Region.wanted o (yielded l.toArray a.tmps) = true then Oper.wp P o a w K' Q else E := by
  rw [if_pos hw]
  unfold Oper.wp
  rw [hrun]
  exact hK.out _ _ hS fun _ => h

theorem read_step {W w : World} {D : Nat} {σ : St} {m : Nat} (h : Lone W w D σ m) (hm : m < 4194304) (f : Int) (zs : List Int) (n : Nat) (hz : readOf σ f = zs) (hn : zs.length = n) : Calls Try.prog 14 #[.pointer (some ⟨D, 0, none⟩), .int .i64 f] w fun e w' => ∃ v, e = .returned v ∧ ∃ a' cap', v = .slice a' n cap' ∧ Row w' a' n zs ∧ Below w.heap.size w w' :=
  (lone_read_of h hm f zs n hz hn).mono fun e w' ⟨a', cap', he, _, hr, _, hb⟩ => ⟨_, he, a', cap', rfl, hr, hb⟩
theorem pending_step {W w : World} {D : Nat} {σ : St} {m : Nat} (h : Lone W w D σ m) (f : Int) (k : Nat) (hk : pendOf σ f = k) : Calls Try.prog 13 #[.pointer (some ⟨D, 0, none⟩), .int .i64 f] w fun e w' => ∃ v, e = .returned v ∧ v = .int .i64 k ∧ w' = w := by
  subst hk
  exact (lone_pending h f).mono fun e w' ⟨he, hw⟩ => ⟨_, he, rfl, hw⟩
theorem Lone.drew {W w : World} {D : Nat} {σ : St} {m : Nat} (h : Lone W w D σ m) : Lone W w.drew D σ m := h.later (Below.refl _ _).drew

end Go.Proofs.Ytnifpfkemjolkaa.Disk
