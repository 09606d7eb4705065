/-
  What the walks of heaps use: statements that leave their order open, worlds that grow, rows of one's own.
-/
import Derived.Test.YtdplacpdbknlgaaChecked
import Derived.RangeFuncNested
import Derived.RangeFuncBound
import Derived.RangeFuncCalls
import Derived.RangeFuncLeaves
import Derived.RangeFuncBox
import Derived.Test.YtdplacpdbknlgaaLinkMap
import Derived.Laws.Tables
import Derived.Shelf.Abstract
import Derived.Shelf.RegionOpen
import Derived.OwnWalkIn
import Derived.TacticsInMore
import Derived.LoopNIn
import Derived.LoopIn
import Derived.WalkKit
import Derived.ProofKit
import Derived.OpenShut
import Derived.BigQuiet
import Derived.Deep.QuietTactic
import Derived.WalkSmall
import Derived.Deep.RegionWith
import Derived.Deep.RegionHeld3
import Derived.Laws.AppendOwn
import Derived.Laws.OwnMore
import Derived.Laws.Cover3
import Derived.BigRegion
import Derived.BigRegionIn
import Derived.Deep.RegionLaw
namespace Go.Proofs.Ytdplacpdbknlgaa.Lk
set_option linter.unusedVariables false
set_option linter.unusedSimpArgs false
open Go Go.RowKit Go.Shelf Go.Proofs
attribute [local go_sem] Oper.semAt_some
theorem ret_int {k : IntKind} {a b : Int} (h : a = b) : Ending.returned (.int k a) = .returned (.int k b) := by rw [h]
theorem ret_bool {a b : Bool} (h : a = b) : Ending.returned (.bool a) = .returned (.bool b) := by rw [h]
theorem bcell {W w1 : World} (hb : Below W.heap.size W w1) : (∀ b o, b < W.heap.size → w1.cell? ⟨b, o, none⟩ = W.cell? ⟨b, o, none⟩) ∧ (∀ b o, b < W.heap.size → w1.frozen? ⟨b, o, none⟩ = W.frozen? ⟨b, o, none⟩) :=
  ⟨fun b o h => hb.cell (p := ⟨b, o, none⟩) h, fun b o h => hb.frozen (p := ⟨b, o, none⟩) h⟩
theorem bcat {a b c : World} (h : Below a.heap.size a b) (k : Below b.heap.size b c) : Below a.heap.size a c := h.trans (k.mono h.size)
/- A world of a class. -/
structure Cls (S : World → Prop) : Type where
  w : World
  h : S w
theorem wp_region_cls {P : Program} (S : World → Prop) {id : Nat} {Q : Exit → Act → World → Prop} {a : Act} {w : World} {l : List Oper} (hm : P.follows .mixedOrders = true) (hB : Region.lexB .any l.toArray = true)
    (hS : S w.drew) (h : wpQuiet P l.toArray (fun w' => ∃ u : Cls S, w' = u.w) (fun a' => ∀ w', (∃ u : Cls S, w' = u.w) → Q .normal a' w') l a) : (Code.region id l.toArray true).wp P Q a w :=
  wp_region_quiet (C := fun w' => ∃ u : Cls S, w' = u.w) hm hB ⟨⟨_, hS⟩, rfl⟩ h
theorem cls_call {P : Program} {f : FuncId} {args : Array Value} {S : World → Prop} {u : Cls S} {v : Value} {R : World → Prop}
    (h : Calls P f args u.w fun e w' => e = .returned v ∧ R w') (hR : ∀ w', R w' → S w') : Calls P f args u.w fun e w' => e = .returned v ∧ ∃ u' : Cls S, w' = u'.w :=
  h.mono fun _ w' ⟨he, hw⟩ => ⟨he, ⟨w', hR w' hw⟩, rfl⟩

theorem grown_of_below {w w' : World} (h : Below w.heap.size w w') : w.grownBy w' none := ⟨h.os, h.tape, h.output, h.size, fun k hk _ => h.block k hk⟩
theorem cell_block {w w' : World} {p : Addr} (h : w'.heap[p.block]? = w.heap[p.block]?) : w'.cell? p = w.cell? p := by unfold World.cell?; rw [h]

theorem own_form {w : World} {base : Nat} {e : TypeId} {S : Nat} {v : Value} {n : Nat} {xs : List Value} (h : w.ownsRow base e S v n xs) : ∃ a cap, v = .slice a n cap ∧ (a = none → n = 0 ∧ cap = 0) ∧ n ≤ cap ∧ cap ≤ maxLen := by
  rcases h.2 with ⟨rfl, h0⟩ | ⟨g, cap, cur, rfl, hb, hg, hnc, hcm, hcs, htake⟩
  · subst h0; exact ⟨none, 0, rfl, fun _ => ⟨rfl, rfl⟩, Nat.le_refl _, Nat.zero_le _⟩
  · exact ⟨_, cap, rfl, fun h => (by cases h), hnc, hcm⟩
theorem owns_same {w w' : World} {base : Nat} {e : TypeId} {size : Nat} {v : Value} {n : Nat} {xs : List Value} (h : w.ownsRow base e size v n xs) (hb : ∀ k, v.ownBlock = some k → w'.heap[k]? = w.heap[k]?) : w'.ownsRow base e size v n xs := by
  refine ⟨h.1, ?_⟩
  rcases h.2 with hn | ⟨g, cap, cur, rfl, hb', hg, rest⟩
  · exact .inl hn
  · exact .inr ⟨g, cap, cur, rfl, hb', by rw [hb g rfl]; exact hg, rest⟩
theorem owns_go {w w' : World} {base : Nat} {e : TypeId} {size : Nat} {v : Value} {n : Nat} {xs : List Value} (h : w.ownsRow base e size v n xs) (hb : Below w.heap.size w w') : w'.ownsRow base e size v n xs :=
  owns_same h fun k hk => hb.block k (h.lt k hk).2
theorem own_since {w : World} {base : Nat} {e : TypeId} {S : Nat} {v : Value} {n : Nat} {xs : List Value} (h : w.ownsRow base e S v n xs) : ∀ k, v.ownBlock = some k → base ≤ k ∧ k < w.heap.size := fun k hk => h.lt k hk
theorem owns_base {w : World} {b b' : Nat} {e : TypeId} {size : Nat} {v : Value} {n : Nat} {xs : List Value} (hb : b' ≤ b) (h : w.ownsRow b e size v n xs) : w.ownsRow b' e size v n xs := by
  refine ⟨h.1, ?_⟩
  rcases h.2 with hn | ⟨g, cap, cur, rfl, hb', rest⟩
  · exact .inl hn
  · exact .inr ⟨g, cap, cur, rfl, by omega, rest⟩
/- The operation of that number: it comes written out. -/
def nth : List Oper → Nat → Option Oper
  | [], _ => none
  | o :: _, 0 => some o
  | _ :: l, n + 1 => nth l n
theorem nth_eq : ∀ (l : List Oper) (i : Nat), l.toArray[i]? = nth l i
  | [], _ => rfl
  | o :: l, 0 => by simp [nth]
  | o :: l, n + 1 => by
    have := nth_eq l n
    simp only [List.getElem?_toArray] at this ⊢
    rw [List.getElem?_cons_succ, this]
    rfl
theorem start_held {P : Program} {S : World → Prop} {Q : Exit → Act → World → Prop} {id : Nat} {a : Act} {w : World} {l : List Oper} (N : Nat) (hN : l.length = N) (hm : P.follows .mixedOrders = true)
    (hS : S w.drew) (h : wpAnyH P .any l.toArray Q S N (Array.replicate N false) a w.drew) : (Code.region id l.toArray true).wp P Q a w := by
  subst hN
  exact wp_region_held_drew (S := S) hm hS fun _ => by simpa using h
theorem take_held {P : Program} {S : World → Prop} {Q : Exit → Act → World → Prop} {md : Region.Mode} {l : List Oper} (i : Nat) {oi : Oper} {v : Value} {fuel : Nat} {listed : Array Bool} {a : Act} {w : World} (hS : S w) (hi : nth l i = some oi)
    (hs : Region.noSelect l.toArray = true) (hf : Region.free md l.toArray listed i = true) (hr : (Region.ready md l.toArray listed).contains i = true) (hQ : ∀ c a w, Q (.panic c) (a.put oi.dst v) w → Q (.panic c) a w)
    (hw : Region.wanted oi (yielded l.toArray a.tmps) = true) (hy : ∀ w, S w → (execOp a.eval oi).run P w = .ok (.value v) w)
    (h : wpAnyH P md l.toArray Q S fuel (listed.setIfInBounds i true) (a.put oi.dst v) w) : wpAnyH P md l.toArray Q S (fuel + 1) listed a w :=
  wpAnyH_take ((nth_eq l i).trans hi) hs hf hr hQ (Or.inl ⟨hw, hy⟩) hS h
/- One operation that stands alone: a call, by its contract; it may panic. -/
theorem call_held {P : Program} {S : World → Prop} {Q : Exit → Act → World → Prop} {md : Region.Mode} {l : List Oper} (i : Nat) {o : Oper} {fuel : Nat} {listed : Array Bool} {a : Act} {w : World} (hi : nth l i = some o)
    (hr : Region.ready md l.toArray listed = [i]) (hw : Region.wanted o (yielded l.toArray a.tmps) = true) (f : FuncId) (vals : Array Value) (hrun : (execOp a.eval o).run P w = .ok (.enter f vals) w) (R : Ending → World → Prop)
    (hc : Calls P f vals w R) (h : ∀ e w', R e w' → (∃ v, e = .returned v ∧ S w' ∧ wpAnyH P md l.toArray Q S fuel (listed.setIfInBounds i true) (a.put o.dst v) w') ∨ (∃ ch, e = .panicked ch ∧ Q (.panic ch) a w')) : wpAnyH P md l.toArray Q S (fuel + 1) listed a w := by
  refine wpAnyH_ready hr (by simp) (AllReadyH.cons ((nth_eq l i).trans hi) ?_ AllReadyH.nil)
  intro K' hK
  rw [if_pos hw]
  unfold Oper.wp
  rw [hrun]
  refine Calls.mono hc ?_
  intro e w' hR
  rcases h e w' hR with ⟨v, rfl, h1, h2⟩ | ⟨ch, rfl, h1⟩
  · exact hK.out _ _ h1 fun _ => h2
  · exact h1
/- One operation that stands alone and reads. -/
theorem read_held {P : Program} {S : World → Prop} {Q : Exit → Act → World → Prop} {md : Region.Mode} {l : List Oper} (i : Nat) {o : Oper} {fuel : Nat} {listed : Array Bool} {a : Act} {w : World} (hi : nth l i = some o)
    (hr : Region.ready md l.toArray listed = [i]) (hw : Region.wanted o (yielded l.toArray a.tmps) = true) (v : Value) (hrun : (execOp a.eval o).run P w = .ok (.value v) w) (hS : S w)
    (h : wpAnyH P md l.toArray Q S fuel (listed.setIfInBounds i true) (a.put o.dst v) w) : wpAnyH P md l.toArray Q S (fuel + 1) listed a w := by
  refine wpAnyH_ready hr (by simp) (AllReadyH.cons ((nth_eq l i).trans hi) ?_ AllReadyH.nil)
  intro K' hK
  rw [if_pos hw]
  unfold Oper.wp
  rw [hrun]
  exact hK.out _ _ hS fun _ => h
/- One operation that stands alone and writes. -/
theorem store_held {P : Program} {S : World → Prop} {Q : Exit → Act → World → Prop} {md : Region.Mode} {l : List Oper} (i : Nat) {o : Oper} {fuel : Nat} {listed : Array Bool} {a : Act} {w : World} (hi : nth l i = some o)
    (hr : Region.ready md l.toArray listed = [i]) (hw : Region.wanted o (yielded l.toArray a.tmps) = true) (w' : World) (hrun : (execOp a.eval o).run P w = .ok .skip w') (hS : S w')
    (h : wpAnyH P md l.toArray Q S fuel (listed.setIfInBounds i true) (a.put o.dst undef) w') : wpAnyH P md l.toArray Q S (fuel + 1) listed a w := by
  refine wpAnyH_ready hr (by simp) (AllReadyH.cons ((nth_eq l i).trans hi) ?_ AllReadyH.nil)
  intro K' hK
  rw [if_pos hw]
  unfold Oper.wp
  rw [hrun]
  exact hK.out _ _ hS fun _ => h
theorem done_held {P : Program} {S : World → Prop} {Q : Exit → Act → World → Prop} {md : Region.Mode} {l : List Oper} {listed : Array Bool} {a : Act} {w : World} (hr : Region.ready md l.toArray listed = []) (h : Q .normal a w) (fuel : Nat) : wpAnyH P md l.toArray Q S fuel listed a w :=
  wpAnyH_done hr h fuel
theorem held_more {P : Program} {Q : Exit → Act → World → Prop} {md : Region.Mode} {ops : Array Oper} {S S' : World → Prop} (hS : ∀ w, S' w → S w) : ∀ (fuel : Nat) (listed : Array Bool) (a : Act) (w : World), wpAnyH P md ops Q S' fuel listed a w → wpAnyH P md ops Q S fuel listed a w
  | 0, _, _, _, h => h
  | fuel + 1, _, _, _, h => ⟨h.1, fun i hi => wpOp_mono (fun a' w' h' => ⟨hS _ h'.1, held_more hS fuel _ a' w' h'.2⟩) (h.2 i hi)⟩
/- From here on no world but those of S' comes up. -/
theorem rebase {P : Program} {S S' : World → Prop} {Q : Exit → Act → World → Prop} {md : Region.Mode} {ops : Array Oper} {fuel : Nat} {listed : Array Bool} {a : Act} {w : World} (h : ∀ u, S' u → S u) (hw : wpAnyH P md ops Q S' fuel listed a w) : wpAnyH P md ops Q S fuel listed a w :=
  held_more h fuel listed a w hw

theorem run_store_op {o : Oper} {a : Act} {w w' : World} (ty : TypeId) (x y : Operand) (ho : o.op = .store ty x y) (g : Nat) (cells : Array Value) (hx : a.eval x = .pointer (some ⟨g, 0, none⟩)) (hy : a.eval y = .agg cells)
    (h : (storeVar ty ⟨g, 0, none⟩ (.agg cells)).run Try.prog w = .ok () w') : (execOp a.eval o).run Try.prog w = .ok .skip w' := by
  unfold execOp
  simp only [ho, hx, hy, Instr.storeAt, Instr.sureAddr, Sem.run_bind, Sem.run_pure, Result.andThen_ok, h]
theorem skip_held {P : Program} {S : World → Prop} {Q : Exit → Act → World → Prop} {md : Region.Mode} {l : List Oper} (i : Nat) {oi : Oper} {fuel : Nat} {listed : Array Bool} {a : Act} {w : World} (hS : S w) (hi : nth l i = some oi)
    (hs : Region.noSelect l.toArray = true) (hf : Region.free md l.toArray listed i = true) (hr : (Region.ready md l.toArray listed).contains i = true) (hQ : ∀ c a w, Q (.panic c) (a.put oi.dst undef) w → Q (.panic c) a w)
    (hw : Region.wanted oi (yielded l.toArray a.tmps) = false)
    (h : wpAnyH P md l.toArray Q S fuel (listed.setIfInBounds i true) (a.put oi.dst undef) w) : wpAnyH P md l.toArray Q S (fuel + 1) listed a w :=
  wpAnyH_take ((nth_eq l i).trans hi) hs hf hr hQ (Or.inr ⟨hw, rfl⟩) hS h
theorem call_in {P : Program} {S : World → Prop} {Q : Exit → Act → World → Prop} {md : Region.Mode} {l : List Oper} {o : Oper} {fuel : Nat} {listed : Array Bool} {a : Act} {w : World} {E : Prop} {K' : Act → World → Prop} (hK : Shut (∀ a w, S w → (S w → wpAnyH P md l.toArray Q S fuel listed a w) → K' a w))
    (hw : Region.wanted o (yielded l.toArray a.tmps) = true) (f : FuncId) (vals : Array Value) (hrun : (execOp a.eval o).run P w = .ok (.enter f vals) w) (R : Value → World → Prop)
    (hc : Calls P f vals w fun e w' => ∃ v, e = .returned v ∧ R v w') (h : ∀ v w', R v w' → S w' ∧ wpAnyH P md l.toArray Q S fuel listed (a.put o.dst v) w') : if Region.wanted o (yielded l.toArray a.tmps) = true then Oper.wp P o a w K' Q else E := by
  rw [if_pos hw]
  unfold Oper.wp
  rw [hrun]
  refine Calls.mono hc ?_
  rintro e w' ⟨v, rfl, hR⟩
  exact hK.out _ _ (h v w' hR).1 fun _ => (h v w' hR).2
theorem value_in {P : Program} {S : World → Prop} {Q : Exit → Act → World → Prop} {md : Region.Mode} {l : List Oper} {o : Oper} {fuel : Nat} {listed : Array Bool} {a : Act} {w : World} {E : Prop} {K' : Act → World → Prop} (hK : Shut (∀ a w, S w → (S w → wpAnyH P md l.toArray Q S fuel listed a w) → K' a w))
    (hw : Region.wanted o (yielded l.toArray a.tmps) = true) (v : Value) (w' : World) (hrun : (execOp a.eval o).run P w = .ok (.value v) w') (hS : S w') (h : wpAnyH P md l.toArray Q S fuel listed (a.put o.dst v) w') : if Region.wanted o (yielded l.toArray a.tmps) = true then Oper.wp P o a w K' Q else E := by
  rw [if_pos hw]
  unfold Oper.wp
  rw [hrun]
  exact hK.out _ _ hS fun _ => h
theorem skip_in {P : Program} {S : World → Prop} {Q : Exit → Act → World → Prop} {md : Region.Mode} {l : List Oper} {o : Oper} {fuel : Nat} {listed : Array Bool} {a : Act} {w : World} {E : Prop} {K' : Act → World → Prop} (hK : Shut (∀ a w, S w → (S w → wpAnyH P md l.toArray Q S fuel listed a w) → K' a w))
    (hw : Region.wanted o (yielded l.toArray a.tmps) = true) (w' : World) (hrun : (execOp a.eval o).run P w = .ok .skip w') (hS : S w') (h : wpAnyH P md l.toArray Q S fuel listed (a.put o.dst undef) w') : if Region.wanted o (yielded l.toArray a.tmps) = true then Oper.wp P o a w K' Q else E := by
  rw [if_pos hw]
  unfold Oper.wp
  rw [hrun]
  exact hK.out _ _ hS fun _ => h

/- A statement that does not panic. -/
def calm (Q : Exit → Act → World → Prop) : Exit → Act → World → Prop
  | .normal, a, w => Q .normal a w
  | _, _, _ => False
theorem calm_wp {P : Program} {c : Code} {Q : Exit → Act → World → Prop} {a : Act} {w : World} (h : c.wp P (calm Q) a w) : c.wp P Q a w :=
  wp_mono h (fun e a w hq => by cases e <;> first | exact hq | exact hq.elim)
theorem done_calm {P : Program} {S : World → Prop} {Q : Exit → Act → World → Prop} {md : Region.Mode} {l : List Oper} {listed : Array Bool} {a : Act} {w : World} (hr : Region.ready md l.toArray listed = []) (h : Q .normal a w) (fuel : Nat) : wpAnyH P md l.toArray (calm Q) S fuel listed a w :=
  wpAnyH_done (Q := calm Q) hr h fuel
/- Within a round: what holds in every order of the plain walk holds there. -/
def noDefer (l : List Oper) : Bool := l.all fun o => match o.op with
  | .defer _ => false
  | _ => true
theorem noDefer_at {l : List Oper} (h : noDefer l = true) {i : Nat} {o : Oper} (hi : l.toArray[i]? = some o) : ∀ c, o.op ≠ .defer c := by
  intro c hc
  have hm : o ∈ l := by
    rw [List.getElem?_toArray] at hi
    exact List.mem_of_getElem? hi
  have := List.all_eq_true.1 h o hm
  rw [hc] at this
  cases this
theorem op_round {l n : Nat} {P : Program} {o : Oper} {a : Act} {w : World} {K : Act → World → Prop} {Q : Exit → Act → World → Prop} (hd : ∀ c, o.op ≠ .defer c) (h : o.wp P a w K Q) : o.wpIn (Fence.wide.inRound l) n P a w K Q := by
  unfold Oper.wpIn
  refine ⟨fun _ _ => trivial, ?_⟩
  rw [Oper.semAt_plain _ _ _ hd]
  unfold Oper.wp at h
  generalize (execOp a.eval o).run P w = r at *
  cases r with
  | ok x w' =>
    cases x <;> simp only [Oper.upon, Oper.uponIn] at h ⊢ <;>
      first
        | exact h
        | exact ⟨fun hh => (by cases hh), CallsIn.inRound l (callsIn_wide.2 h)⟩
        | exact ⟨fun hh => (by cases hh), fun c cs _ => by obtain ⟨v, w2, q, s⟩ := h c cs; exact ⟨v, w2, q, stepsIn_wide.2 s⟩⟩
        | exact h.elim
  | halt x w' => cases x <;> simp only [Oper.upon, Oper.uponIn] at h ⊢ <;> exact h
theorem any_round {l n : Nat} {P : Program} {md : Region.Mode} {ops : Array Oper} {Q : Exit → Act → World → Prop} (hO : ∀ a w, ¬ Q .outgrown a w) (hd : ∀ (i : Nat) (o : Oper), ops[i]? = some o → ∀ c, o.op ≠ .defer c) : ∀ (fuel : Nat) (listed : Array Bool) (a : Act) (w : World), wpAny P md ops Q fuel listed a w → wpAnyIn (Fence.wide.inRound l) n P md ops Q fuel listed a w
  | 0, _, _, _, h => h
  | fuel + 1, listed, a, w, h => ⟨h.1, fun i hi => by
      have h2 := wpOp_mono (fun a' w' h' => any_round (l := l) (n := n) hO hd fuel _ a' w' h') (h.2 i hi)
      unfold wpOpIn
      unfold wpOp at h2
      cases ho : ops[i]? with
      | none => simpa [ho] using h2
      | some o =>
        simp only [ho] at h2 ⊢
        by_cases hw : Region.wanted o (yielded ops a.tmps) = true
        · rw [if_pos hw] at h2 ⊢
          rcases h2 with h2 | ⟨_, a', w', h3⟩
          · exact op_round (hd i o ho) h2
          · exact (hO a' w' h3).elim
        · rw [if_neg hw] at h2 ⊢
          exact ⟨fun _ _ => trivial, h2⟩⟩
theorem start_round {l n : Nat} {P : Program} {S : World → Prop} {Q : Exit → Act → World → Prop} {id : Nat} {a : Act} {w : World} {ls : List Oper} (N : Nat) (hN : ls.length = N) (hm : P.follows .mixedOrders = true) (hd : noDefer ls = true) (hO : ∀ a w, ¬ Q .outgrown a w)
    (hS : S w.drew) (h : wpAnyH P .any ls.toArray Q S N (Array.replicate N false) a w.drew) : (Code.region id ls.toArray true).wpIn (Fence.wide.inRound l) n P Q a w := by
  subst hN
  refine wpIn_region_any hm (any_round hO (fun i o hi => noDefer_at hd hi) _ _ _ _ ?_)
  have := wpAny_of_held _ _ _ _ h
  simpa using this
theorem cell_same {w w' : World} {b o : Nat} (h : w'.heap[b]? = w.heap[b]?) : w'.cell? ⟨b, o, none⟩ = w.cell? ⟨b, o, none⟩ := by unfold World.cell?; rw [h]
theorem frozen_same {w w' : World} {b o : Nat} (h : w'.heap[b]? = w.heap[b]?) : w'.frozen? ⟨b, o, none⟩ = w.frozen? ⟨b, o, none⟩ := by unfold World.frozen?; rw [h]
theorem eql_nil (w : World) (t e : TypeId) (a : Option Addr) (l c : Nat) (h : Try.prog.underlying t = some (.slice e)) : (binOp .eql t (.slice a l c) (.slice none 0 0)).run Try.prog w = .ok (.bool a.isNone) w := by
  simp only [binOp]
  simp [run_equal_slice_nil w t e a l c h]
/- Numbers that may be. -/
def rowL {α : Type} (f : α → List Value) (xs : List α) : List Value := xs.flatMap f
theorem rowL_append {α : Type} (f : α → List Value) (xs ys : List α) : rowL f (xs ++ ys) = rowL f xs ++ rowL f ys := by simp [rowL]
theorem rowL_len {α : Type} {f : α → List Value} {S : Nat} (hf : ∀ x, (f x).length = S) (xs : List α) : (rowL f xs).length = xs.length * S := by
  induction xs with
  | nil => simp [rowL]
  | cons x l ih => rw [show rowL f (x :: l) = f x ++ rowL f l from rfl, List.length_append, ih, hf, List.length_cons, Nat.succ_mul]; omega
theorem rowL_at {α : Type} {f : α → List Value} {S : Nat} (hf : ∀ x, (f x).length = S) : ∀ (xs : List α) (i : Nat) (h : i < xs.length) (j : Nat) (v : Value), (f (xs[i]'h))[j]? = some v → (rowL f xs)[i * S + j]? = some v
  | [], i, h => by simp at h
  | x :: l, 0, h => fun j v hv => by
    have hj := (List.getElem?_eq_some_iff.1 hv).1
    rw [show rowL f (x :: l) = f x ++ rowL f l from rfl, Nat.zero_mul, Nat.zero_add]
    rw [List.getElem?_append_left (by simpa using hj)]
    simpa using hv
  | x :: l, i + 1, h => fun j v hv => by
    rw [show rowL f (x :: l) = f x ++ rowL f l from rfl, List.getElem?_append_right (by rw [hf, Nat.succ_mul]; omega), hf, show (i + 1) * S + j - S = i * S + j by rw [Nat.succ_mul]; omega]
    exact rowL_at hf l i (by simpa using h) j v (by simpa using hv)
theorem rowL_inv {α : Type} {f : α → List Value} {S : Nat} (hf : ∀ x, (f x).length = S) : ∀ (xs : List α) (k : Nat) (v : Value), (rowL f xs)[k]? = some v → ∃ i j, ∃ h : i < xs.length, k = i * S + j ∧ (f (xs[i]'h))[j]? = some v
  | [], k, v, h => by simp [rowL] at h
  | x :: l, k, v, h => by
    rw [show rowL f (x :: l) = f x ++ rowL f l from rfl] at h
    by_cases hk : k < (f x).length
    · rw [List.getElem?_append_left hk] at h
      exact ⟨0, k, by simp, by omega, by simpa using h⟩
    · rw [List.getElem?_append_right (by omega), hf] at h
      rw [hf] at hk
      obtain ⟨i, j, hi, e, hv⟩ := rowL_inv hf l (k - S) v h
      exact ⟨i + 1, j, by simpa using hi, by rw [Nat.succ_mul]; omega, by simpa using hv⟩
end Go.Proofs.Ytdplacpdbknlgaa.Lk
