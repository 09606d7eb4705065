/-
  The chapter's own answer: a thing that its reader reads field by field.
-/
import Derived.Test.YthdgpadakmdlkaaCodecRefPose
import Derived.Deep.MidRow
namespace Go.Proofs.Ythdgpadakmdlkaa.Codec
set_option linter.unusedVariables false
set_option linter.unusedSimpArgs false
open Go Go.RowKit

/- What one read comes to: the thing, or that all is bad. -/
def Rd1 {α : Type} (c : Cod α) (zs : List Int) (k : Nat) (bad : Bool) (x : α) (k' : Nat) (bad' : Bool) : Prop :=
  (bad = false ∧ bad' = false ∧ c.get (zs.drop k) = some (x, zs.drop k') ∧ k < k' ∧ c.ok x) ∨ (bad' = true ∧ (bad = true ∨ c.get (zs.drop k) = none))
theorem Rd1.also {α β : Type} {c : Cod α} {d : Cod β} {zs : List Int} {k k1 k2 : Nat} {b b1 b2 : Bool} {x : α} {y : β} (h : Rd1 c zs k b x k1 b1) (h' : Rd1 d zs k1 b1 y k2 b2) : Rd1 (pair c d) zs k b (x, y) k2 b2 := by
  rcases h with ⟨rfl, rfl, q1, l1, o1⟩ | ⟨rfl, q1⟩
  · rcases h' with ⟨_, rfl, q2, l2, o2⟩ | ⟨rfl, q2⟩
    · exact Or.inl ⟨rfl, rfl, pair_some q1 q2, by omega, ⟨o1, o2⟩⟩
    · refine Or.inr ⟨rfl, Or.inr ?_⟩
      rcases q2 with q2 | q2
      · cases q2
      · exact pair_none2 q1 q2
  · rcases h' with ⟨hb, _⟩ | ⟨rfl, q2⟩
    · cases hb
    · refine Or.inr ⟨rfl, ?_⟩
      rcases q1 with q1 | q1
      · exact Or.inl q1
      · exact Or.inr (pair_none q1)
theorem num_one (w : World) (R : Nat) (a : Option Addr) (cap : Nat) (zs : List Int) (k : Nat) (bad : Bool) (h : RR w R a cap zs k bad) :
    Calls Try.prog 27 #[.pointer (some ⟨R, 0, none⟩)] w fun e w' => w.grownBy w' (some R) ∧ ∃ (x : Int) (k' : Nat) (bad' : Bool), e = .returned (.int .i64 x) ∧ RR w' R a cap zs k' bad' ∧ Rd1 cNum zs k bad x k' bad' := by
  refine (rnumber_one w R a cap zs k bad h).mono ?_
  rintro e w' ⟨g, x, k', rfl, b', rr, s⟩
  exact ⟨g, x, k', b', rfl, rr, s⟩
theorem flag_one (w : World) (R : Nat) (a : Option Addr) (cap : Nat) (zs : List Int) (k : Nat) (bad : Bool) (h : RR w R a cap zs k bad) :
    Calls Try.prog 48 #[.pointer (some ⟨R, 0, none⟩)] w fun e w' => w.grownBy w' (some R) ∧ ∃ (x : Bool) (k' : Nat) (bad' : Bool), e = .returned (.bool x) ∧ RR w' R a cap zs k' bad' ∧ Rd1 cFlag zs k bad x k' bad' := by
  refine (rflag_one w R a cap zs k bad h).mono ?_
  rintro e w' ⟨g, x, k', rfl, b', rr, s⟩
  exact ⟨g, x, k', b', rfl, rr, s⟩
theorem cell_one (w : World) (R : Nat) (a : Option Addr) (cap : Nat) (zs : List Int) (k : Nat) (bad : Bool) (h : RR w R a cap zs k bad) :
    Calls Try.prog 50 #[.pointer (some ⟨R, 0, none⟩)] w fun e w' => w.grownBy w' (some R) ∧ ∃ (x y : Int) (k' : Nat) (bad' : Bool), e = .returned (.agg #[.int .i64 x, .int .i64 y]) ∧ RR w' R a cap zs k' bad' ∧ Rd1 cCell zs k bad (x, y) k' bad' := by
  refine (rcell_one w R a cap zs k bad h).mono ?_
  rintro e w' ⟨g, x, y, k', rfl, b', rr, s⟩
  exact ⟨g, x, y, k', b', rfl, rr, s⟩
theorem pose_one (w : World) (R : Nat) (a : Option Addr) (cap : Nat) (zs : List Int) (k : Nat) (bad : Bool) (h : RR w R a cap zs k bad) :
    Calls Try.prog 28 #[.pointer (some ⟨R, 0, none⟩)] w fun e w' => w.grownBy w' (some R) ∧ ∃ (x y : Int) (d : Bool) (k' : Nat) (bad' : Bool), e = .returned (.agg #[.int .i64 x, .int .i64 y, .bool d]) ∧ RR w' R a cap zs k' bad' ∧ Rd1 cPose zs k bad ((x, y), d) k' bad' := by
  refine (rpose_any w R a cap zs k bad h).mono ?_
  rintro e w' ⟨g, ⟨⟨x, y⟩, d⟩, k', rfl, ⟨hb, q, l, o, rr⟩ | ⟨q, rr⟩⟩
  · exact ⟨g, x, y, d, k', false, rfl, rr, Or.inl ⟨hb, rfl, q, l, o⟩⟩
  · exact ⟨g, x, y, d, k', true, rfl, rr, Or.inr ⟨rfl, q⟩⟩
theorem rr_fresh (w : World) (a : Option Addr) (n cap : Nat) (zs : List Int) (t : TypeId) (hr : Row w a n zs) (hc : n ≤ cap) (hc2 : cap ≤ 9223372036854775807) (h0 : a = none → cap = 0) (N : Nat) (hN : N = w.heap.size) : RR (w.alloc (.cells #[.slice a n cap, .int .i64 0, .bool false] t)) N a cap zs 0 false := by
  subst hN
  have hl := hr.len
  have hr' := hr.after ((Below.refl _ _).alloc (Nat.le_refl _) (.cells #[.slice a n cap, .int .i64 0, .bool false] t))
  refine ⟨?_, ?_, ?_, ?_, ?_, by rw [hl]; exact hr', fun x hx hn => Nat.ne_of_lt (hr.lt x hx (by omega)), by omega, by omega, hc2, h0⟩
  · rw [cell_new, hl]; rfl
  · rw [cell_new]; rfl
  · rw [cell_new]; rfl
  · unfold World.frozen?; rw [heap_alloc_new]; rfl
  · unfold World.frozen?; rw [heap_alloc_new]; rfl
theorem RR.aside {w : World} {R : Nat} {a : Option Addr} {cap : Nat} {zs : List Int} {k : Nat} {bad : Bool} (h : RR w R a cap zs k bad) (N i : Nat) (v : Value) (hN : N ≠ R) (ha : ∀ x, a = some x → zs.length ≠ 0 → x.block ≠ N) : RR (w.setCell ⟨N, i, none⟩ v) R a cap zs k bad := by
  refine ⟨?_, ?_, ?_, ?_, ?_, row_set _ h.row ha, h.apart, h.le, h.cap1, h.cap2, h.nil⟩
  · rw [World.cell?_setCell_other _ _ _ _ (by simp [hN])]; exact h.s
  · rw [World.cell?_setCell_other _ _ _ _ (by simp [hN])]; exact h.i
  · rw [World.cell?_setCell_other _ _ _ _ (by simp [hN])]; exact h.b
  · rw [World.frozen?_setCell]; exact h.fz
  · rw [World.frozen?_setCell]; exact h.fb
/- What lies there between the reads: the reader in block R, the place of the result in M, the thing so far in N. -/
structure Ob (w0 : World) (R M N : Nat) (T : TypeId) (zero : Array Value) (a : Option Addr) (cap : Nat) (zs : List Int) (w : World) (cs : Array Value) (k : Nat) (bad : Bool) : Prop where
  grow : w0.grownBy w (some R)
  rr : RR w R a cap zs k bad
  res : w.heap[M]? = some (.cells zero T (0, 0))
  so : w.heap[N]? = some (.cells cs T (0, 0))
  m0 : w0.heap.size ≤ M
  n0 : w0.heap.size ≤ N
  mn : M ≠ N
  mr : M ≠ R
  nr : N ≠ R
  old : ∀ x, a = some x → zs.length ≠ 0 → x.block < w0.heap.size
theorem Ob.kept {w0 w w1 : World} {R M N : Nat} {T : TypeId} {zero cs : Array Value} {a : Option Addr} {cap : Nat} {zs : List Int} {k k' : Nat} {bad bad' : Bool} (h : Ob w0 R M N T zero a cap zs w cs k bad) (g : w.grownBy w1 (some R)) (r : RR w1 R a cap zs k' bad') : Ob w0 R M N T zero a cap zs w1 cs k' bad' :=
  ⟨h.grow.trans g, r, heap_kept g (lt_of_heap h.res) h.mr h.res, heap_kept g (lt_of_heap h.so) h.nr h.so, h.m0, h.n0, h.mn, h.mr, h.nr, h.old⟩
theorem Ob.drewN {w0 w : World} {R M N : Nat} {T : TypeId} {zero cs : Array Value} {a : Option Addr} {cap : Nat} {zs : List Int} {k : Nat} {bad : Bool} (h : Ob w0 R M N T zero a cap zs w cs k bad) (m : Nat) : Ob w0 R M N T zero a cap zs (w.drewN m) cs k bad := h.kept (grown_drewN w m _) (h.rr.drewN m)
theorem grown_set {w0 w : World} {R : Nat} (h : w0.grownBy w (some R)) (N i : Nat) (v : Value) (hN : w0.heap.size ≤ N) : w0.grownBy (w.setCell ⟨N, i, none⟩ v) (some R) := by
  refine ⟨h.os, h.tape, h.output, by simp; exact h.size, fun j hj hne => ?_⟩
  rw [heap_setCell_other _ _ _ _ (by simp only; omega)]
  exact h.block j hj hne
theorem Ob.put {w0 w : World} {R M N : Nat} {T : TypeId} {zero cs : Array Value} {a : Option Addr} {cap : Nat} {zs : List Int} {k : Nat} {bad : Bool} (h : Ob w0 R M N T zero a cap zs w cs k bad) (i : Nat) (v : Value) (cs' : Array Value) (e : cs.setIfInBounds i v = cs') :
    Ob w0 R M N T zero a cap zs (w.setCell ⟨N, i, none⟩ v) cs' k bad := by
  refine ⟨grown_set h.grow _ _ _ h.n0, h.rr.aside _ _ _ h.nr (fun x hx hn => by have := h.old x hx hn; have := h.n0; omega), ?_, ?_, h.m0, h.n0, h.mn, h.mr, h.nr, h.old⟩
  · rw [heap_setCell_other _ _ _ _ (by simp only; exact h.mn)]
    exact h.res
  · rw [← e]
    exact heap_setCell_same _ _ _ _ _ _ h.so
def putL (cs : Array Value) : Nat → List Value → Array Value
  | _, [] => cs
  | o, v :: r => putL (cs.setIfInBounds o v) (o + 1) r
theorem Ob.puts {w0 : World} {R M N : Nat} {T : TypeId} {zero : Array Value} {a : Option Addr} {cap : Nat} {zs : List Int} {k : Nat} {bad : Bool} : ∀ (vs : List Value) (o : Nat) (w : World) (cs cs' : Array Value) (_ : Ob w0 R M N T zero a cap zs w cs k bad) (_ : putL cs o vs = cs'), Ob w0 R M N T zero a cap zs (w.setCells N o vs) cs' k bad
  | [], _, _, _, _, h, e => by
    rw [← e]
    exact h
  | v :: r, o, w, cs, cs', h, e => Ob.puts r (o + 1) _ _ cs' (h.put o v _ rfl) e
theorem Ob.cell {w0 w : World} {R M N : Nat} {T : TypeId} {zero cs : Array Value} {a : Option Addr} {cap : Nat} {zs : List Int} {k : Nat} {bad : Bool} (h : Ob w0 R M N T zero a cap zs w cs k bad) (i : Nat) (v : Value) (e : cs[i]? = some v) : w.cell? ⟨N, i, none⟩ = some v ∧ w.frozen? ⟨N, i, none⟩ = false := by
  refine ⟨(cell_of_row _ _ _ _ _ _ h.so).trans e, ?_⟩
  unfold World.frozen?
  rw [h.so]
  rfl
theorem Ob.there {w0 w : World} {R M N : Nat} {T : TypeId} {zero cs : Array Value} {a : Option Addr} {cap : Nat} {zs : List Int} {k : Nat} {bad : Bool} (h : Ob w0 R M N T zero a cap zs w cs k bad) (o n : Nat) (e : o + n ≤ cs.size) : w.there N o n := by
  intro j hj
  have := h.cell (o + j) _ (Array.getElem?_eq_getElem (by omega))
  exact ⟨by rw [this.1]; rfl, this.2⟩
end Go.Proofs.Ythdgpadakmdlkaa.Codec
