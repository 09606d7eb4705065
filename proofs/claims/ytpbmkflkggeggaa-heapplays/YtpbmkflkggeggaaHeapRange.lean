/-
  A loop over an iterator that keeps memory of its own and turns it between the rounds: what is the caller's stays, what is the iterator's stays.
-/
import Derived.Test.YtpbmkflkggeggaaHeapKit
namespace Go.Proofs.Ytpbmkflkggeggaa.Hp
set_option linter.unusedVariables false
set_option linter.unusedSimpArgs false
open Go Go.RowKit Go.Shelf Go.Proofs

/- Between the rounds: what lies below N and what is the caller's (Cm) stays. -/
structure Btw (Cm : World → Nat → Prop) (N : Nat) (V V' : World) : Prop where
  others : KeepsOthers V V'
  os : V'.os = V.os
  tape : V'.tape = V.tape
  output : V'.output = V.output
  block : ∀ k, k < V.heap.size → (k < N ∨ Cm V k) → V'.heap[k]? = V.heap[k]?
  low : N ≤ V.heap.size
/- A round: what lies from N on and is not the caller's stays. -/
structure Rnd (Cm : World → Nat → Prop) (N : Nat) (V V' : World) : Prop where
  size : V.heap.size ≤ V'.heap.size
  cells : ∀ k o, V.heap[k]? = some o → o.isCells = true → N ≤ k → ¬ Cm V k → V'.heap[k]? = some o
  foot : ∀ k, Cm V' k → Cm V k ∨ V.heap.size ≤ k
theorem lt_some {V : World} {k : Nat} {o : Obj} (h : V.heap[k]? = some o) : k < V.heap.size := (Array.getElem?_eq_some_iff.1 h).1
theorem Rnd.trans {Cm : World → Nat → Prop} {N : Nat} {A B C : World} (h : Rnd Cm N A B) (k : Rnd Cm N B C) : Rnd Cm N A C := by
  refine ⟨Nat.le_trans h.size k.size, fun j o hj ho hN hc => ?_, fun j hj => ?_⟩
  · refine k.cells j o (h.cells j o hj ho hN hc) ho hN fun q => ?_
    have := lt_some hj
    rcases h.foot j q with q | q
    · exact hc q
    · omega
  · have := h.size
    rcases k.foot j hj with q | q
    · exact h.foot j q
    · exact Or.inr (by omega)
theorem others_of_below {V V' : World} (h : Below V.heap.size V V') : KeepsOthers V V' := ⟨h.size, fun k o hk _ => (h.block k (lt_some hk)).trans hk⟩
theorem Btw.below {Cm : World → Nat → Prop} {N : Nat} {V V' : World} (h : Below V.heap.size V V') (hN : N ≤ V.heap.size) : Btw Cm N V V' := ⟨others_of_below h, h.os, h.tape, h.output, fun k hk _ => h.block k hk, hN⟩
theorem not_cells {o o2 : Obj} (h : o.isCells = true) (h2 : o2.isCells = false) : o ≠ o2 := fun e => by rw [e, h2] at h; cases h
/- How a round is left. -/
def Left {α : Type} (Cm : World → Nat → Prop) (N : Nat) (I Ix : List α → World → Prop) (xs : List α) (W : World) : Exit → Act → World → Prop
  | .normal, _, W' => KeepsOthers W W' ∧ Rnd Cm N W W' ∧ I xs W'
  | .ret, _, W' => KeepsOthers W W' ∧ Ix xs W'
  | _, _, _ => False
/- The caller's record of a loop, and what it says at a place. -/
structure Book (D : Nat) (o : Obj) (W : World) : Prop where
  loop : W.heap[D + 1]? = some o
  defs : W.heap[D]? = some (.deferred (some []))
theorem Book.kept {D : Nat} {o : Obj} {W W' : World} (h : Book D o W) (ho : o.isCells = false) (k : KeepsOthers W W') : Book D o W' := ⟨k.same _ _ h.loop ho, k.same _ _ h.defs rfl⟩
theorem Book.put {D : Nat} {o : Obj} {W : World} (h : Book D o W) (o' : Obj) : Book D o' (W.putObj (D + 1) o') :=
  ⟨World.putObj_heap_same (lt_some h.loop), (World.putObj_heap_other (by omega)).trans h.defs⟩
theorem rnd_put {Cm : World → Nat → Prop} {N l : Nat} {W : World} {o : Obj} (o' : Obj) (hl : W.heap[l]? = some o) (ho : o.isCells = false) (hc : ∀ k, Cm (W.putObj l o') k → Cm W k) : Rnd Cm N W (W.putObj l o') := by
  refine ⟨(grownBy_putObj' W l o').size, fun k o2 hk h2 _ _ => ?_, fun k hk => Or.inl (hc k hk)⟩
  refine (World.putObj_heap_other (fun e => ?_)).trans hk
  subst e
  rw [hl] at hk
  exact not_cells h2 ho (Option.some.inj hk).symm

variable {F : Fence} {n : Nat} {P : Program}
theorem range_turns {α : Type} {g : Operand} {ps : Array Tmp} {assign body : Code} {Q : Exit → Act → World → Prop} {a : Act} {w : World}
    (hro : F.round = none) (h1 : 1 ≤ n) {gf : Nat} {lb : Array Value} (hg : a.eval g = .func (.func gf) #[] lb) (hFg : F.fn gf) (eg : ∀ args w, (callFunc gf args).run P w = .ok (.enter gf args) w)
    {encs : α → Array Value} (hps : ∀ x, (encs x).size = ps.size) (L : Nat) (Cm : World → Nat → Prop) (N : Nat) (hN : N ≤ w.heap.size) (I Ix : List α → World → Prop) (S Sp : List α → Prop) (M : List α → α → Act → World → Prop)
    (hI1 : ∀ s V V', I s V → Btw Cm N V V' → I s V') (hI2 : ∀ s V l o o', I s V → N ≤ l → V.heap[l]? = some o → o.isCells = false → I s (V.putObj l o')) (hX2 : ∀ s V l o o', Ix s V → N ≤ l → V.heap[l]? = some o → o.isCells = false → Ix s (V.putObj l o'))
    (hC2 : ∀ V l o o' k, N ≤ l → V.heap[l]? = some o → o.isCells = false → o'.isCells = false → Cm (V.putObj l o') k → Cm V k) (hM2 : ∀ pre x b V l o o', M pre x b V → N ≤ l → V.heap[l]? = some o → o.isCells = false → M pre x b (V.putObj l o'))
    (hit : ∀ (l : Nat) (J Jx : List α → World → Prop) (W : World), Below w.heap.size w W → (∀ s V V', J s V → Btw Cm N V V' → J s V') → (∀ s V, J s V → I s V) →
      (∀ pre x W1, J pre W1 → pre.length < L → YieldAt F (n - 1 - 1) P l (encs x) W1 fun e W' => (e = .returned (.bool true) ∧ J (pre ++ [x]) W' ∧ Rnd Cm N W1 W') ∨ (e = .returned (.bool false) ∧ Jx (pre ++ [x]) W')) → J [] W →
      CallsIn F (n - 1) P gf (#[.func (.yield l) #[] #[]] ++ lb) W fun e W' => (∃ v, e = .returned v) ∧ ((∃ xs, S xs ∧ J xs W') ∨ ∃ pre, Sp pre ∧ Jx pre W'))
    (h0 : I [] w)
    (hassign : ∀ (l : Nat) (pre : List α) (x : α) (W : World) (K : Act → World → Prop), I pre W → pre.length < L → (∀ b W1, KeepsOthers W W1 → Rnd Cm N W W1 → M pre x b W1 → K b W1) →
      assign.wpIn (F.inRound l) (n - 1 - 1) P (Exit.then K (fun _ _ _ => False)) { tmps := (ps.zip (encs x)).foldl (fun t (p, v) => t.setIfInBounds p v) a.tmps, defers := [] } W)
    (hbody : ∀ (l : Nat) (pre : List α) (x : α) (b : Act) (W : World), M pre x b W → body.wpIn (F.inRound l) (n - 1 - 1) P (Left Cm N I Ix (pre ++ [x]) W) b W)
    (hdone : ∀ (D : Nat) (xs : List α) (W : World), w.heap.size ≤ D → S xs → I xs W → W.heap[D]? = some (.deferred (some [])) → Q .normal { a with defers := { target := .collected D, args := #[] } :: a.defers } W)
    (hstop : ∀ (D : Nat) (pre : List α) (W : World), w.heap.size ≤ D → Sp pre → Ix pre W → W.heap[D]? = some (.deferred (some [])) → Code.ret.wpIn F n P Q { a with defers := { target := .collected D, args := #[] } :: a.defers } W) :
    (Code.rangeFunc g ps assign body).wpIn F n P Q a w := by
  refine wpIn_rangeFunc fun fn hfn => ?_
  rw [hro]
  obtain ⟨D, hD⟩ : ∃ D, w.heap.size = D := ⟨_, rfl⟩
  obtain ⟨R, hR⟩ : ∃ R : LoopState → Option Code → Loop, R = fun st pe => { state := st, pending := pe, fn, tmps := a.tmps, params := ps, assign, body, defers := D } := ⟨_, rfl⟩
  obtain ⟨U, hU⟩ : ∃ U, (w.alloc (.deferred (some []))).alloc (.loop (R .ready none)) = U := ⟨_, rfl⟩
  have bU : Below w.heap.size w U := by rw [← hU]; exact ((Below.refl _ _).alloc (Nat.le_refl _) _).alloc (by simp) _
  have kU : Book D (.loop (R .ready none)) U := by
    refine ⟨?_, ?_⟩
    · rw [← hU, ← hD]
      have := World.alloc_heap_new (w.alloc (.deferred (some []))) (.loop (R .ready none))
      rwa [World.size_alloc] at this
    · rw [← hU, ← hD]
      exact (Below.heap_alloc _ _ _ (by simp)).trans (World.alloc_heap_new w _)
  have iU : I [] U := hI1 _ _ _ h0 (Btw.below bU hN)
  refine ⟨D + 1, [{ target := .collected D, args := #[] }], U, { target := .fn (.func gf) lb, args := #[.func (.yield (D + 1)) #[] #[]] }, U, gf, #[.func (.yield (D + 1)) #[] #[]] ++ lb, U, ?_, ?_, ?_, ?_, fun _ => h1, ?_⟩
  · rw [← hU, hR, ← hD]
    exact run_enterLoop_outer _ _ _ _ _
  · simp only [resolve, hg]
    simp [go_sem]
  · intro f' hf'
    simp [Target.leads] at hf'
    subst hf'
    exact hFg
  · simp [invoke, go_sem, eg]
  · have lN : N ≤ D + 1 := by omega
    refine (hit (D + 1) (fun s V => I s V ∧ Book D (.loop (R .ready none)) V) (fun s V => Ix s V ∧ Book D (.loop (R .done (some .ret))) V) U bU (fun s V V' h q => ⟨hI1 s V V' h.1 q, h.2.kept rfl q.others⟩) (fun s V h => h.1) ?_ ⟨iU, kU⟩).mono ?_
    · rintro pre x W ⟨hi, hb⟩ hlen
      have hy := run_yield (P := P) (args := encs x) hb.loop (by rw [hR]; exact hps x)
      rw [hR] at hy
      refine ⟨fn, _, assign, body, hy, roundIn_of_wpIn hfn (hassign _ pre x W _ hi hlen fun b W1 ho hr hm => ?_)⟩
      have hb1 := hb.kept rfl ho
      refine ⟨_, run_beginRound hb1.loop (by rw [hR]), ?_⟩
      obtain ⟨W2, hW2⟩ : ∃ W2, W1.putObj (D + 1) (.loop { R .ready none with state := .busy }) = W2 := ⟨_, rfl⟩
      have hb2 : Book D (.loop { R .ready none with state := .busy }) W2 := by rw [← hW2]; exact hb1.put _
      have hr2 : Rnd Cm N W1 W2 := by rw [← hW2]; exact rnd_put _ hb1.loop rfl (fun k => hC2 _ _ _ _ k lN hb1.loop rfl rfl)
      have hm2 : M pre x b W2 := by rw [← hW2]; exact hM2 _ _ _ _ _ _ _ hm lN hb1.loop rfl
      rw [hW2]
      refine wpIn_mono (hbody _ pre x b W2 hm2) ?_
      rintro e a3 W3 hp
      cases e with
      | normal =>
        obtain ⟨ho3, hr3, hi3⟩ := hp
        have hb3 := hb2.kept rfl ho3
        have he := run_endRound (P := P) none hb3.loop
        refine ⟨_, _, he, Or.inl ⟨rfl, ⟨hI2 _ _ _ _ _ hi3 lN hb3.loop rfl, ?_⟩, ((hr.trans hr2).trans hr3).trans (rnd_put _ hb3.loop rfl (fun k => hC2 _ _ _ _ k lN hb3.loop rfl rfl))⟩⟩
        have := hb3.put (.loop { ({ R .ready none with state := .busy } : Loop) with state := .ready, pending := none })
        rw [hR] at this ⊢
        exact this
      | ret =>
        obtain ⟨ho3, hi3⟩ := hp
        have hb3 := hb2.kept rfl ho3
        have he := run_endRound (P := P) (some .ret) hb3.loop
        refine ⟨_, _, he, Or.inr ⟨rfl, hX2 _ _ _ _ _ hi3 lN hb3.loop rfl, ?_⟩⟩
        have := hb3.put (.loop { ({ R .ready none with state := .busy } : Loop) with state := .done, pending := some .ret })
        rw [hR] at this ⊢
        exact this
      | exit id => exact hp.elim
      | goto t => exact hp.elim
      | panic ch => exact hp.elim
      | outgrown => exact hp.elim
    · rintro e W2 ⟨⟨v, rfl⟩, (⟨xs, hS, hi, hb⟩ | ⟨pre, hSp, hi, hb⟩)⟩
      · refine ⟨none, _, by have := run_endLoop (P := P) hb.loop (by rw [hR]; simp); rw [hR] at this; exact this, ?_⟩
        exact hdone D xs _ (by omega) hS (hI2 _ _ _ _ _ hi lN hb.loop rfl) (hb.put _).defs
      · refine ⟨some .ret, _, by have := run_endLoop (P := P) hb.loop (by rw [hR]; simp); rw [hR] at this; exact this, ?_⟩
        exact hstop D pre _ (by omega) hSp (hX2 _ _ _ _ _ hi lN hb.loop rfl) (hb.put _).defs
end Go.Proofs.Ytpbmkflkggeggaa.Hp
