/-
  What both links have in common: a call that is asked of either.
-/
import Derived.Test.YtjladfpfhhnagaaLinkRef4
namespace Go.Proofs.Ytjladfpfhhnagaa.Lk
set_option linter.unusedVariables false
set_option linter.unusedSimpArgs false
open Go Go.RowKit Go.Shelf Go.Proofs Go.Proofs.Ytjladfpfhhnagaa.Tick Go.Proofs.Ytjladfpfhhnagaa.Plain
attribute [local go_sem] Oper.semAt_some

def okS (N : Nat) (t : Tl) : Prop := 0 ≤ t.rb ∧ t.rb < (N : Int) ∧ (t.kd = 1 ∨ t.kd = 2)
/- What Send tells, and what waits then. -/
structure Snd (N : Nat) (M : Mp) (t : Tl) (now : Int) (ta : Tl) (te : Int) (M' : Mp) : Prop where
  yes : okS N t → ta = t ∧ te = 0 ∧ M' = upd M t.rb (some (t, now))
  no : ¬ okS N t → ta = tl0 ∧ te = 1 ∧ M' = M
theorem snd_ex (N : Nat) (M : Mp) (t : Tl) (now : Int) : ∃ ta te M', Snd N M t now ta te M' := by
  by_cases h : okS N t
  · exact ⟨t, 0, _, ⟨fun _ => ⟨rfl, rfl, rfl⟩, fun q => absurd h q⟩⟩
  · exact ⟨tl0, 1, M, ⟨fun q => absurd q h, fun _ => ⟨rfl, rfl, rfl⟩⟩⟩
/- Nothing waits where there is no robot. -/
def In (N : Nat) (M : Mp) : Prop := ∀ x : Int, ¬ (0 ≤ x ∧ x < (N : Int)) → M x = none
theorem Snd.inn {N : Nat} {M M' : Mp} {t ta : Tl} {now te : Int} (h : Snd N M t now ta te M') (hi : In N M) : In N M' := fun x hx => by
  by_cases ho : okS N t
  · rw [(h.yes ho).2.2]
    unfold upd
    rw [if_neg (fun e => hx (by rw [e]; exact ⟨ho.1, ho.2.1⟩))]
    exact hi x hx
  · rw [(h.no ho).2.2]; exact hi x hx
theorem in_got {N : Nat} {M : Mp} (hi : In N M) (x : Int) : In N (upd M x none) := fun y hy => by
  unfold upd
  split
  · rfl
  · exact hi y hy
theorem in_due {N : Nat} {M : Mp} (hi : In N M) (now rsd : Int) : In N (dueM now rsd M N) := fun y hy => by
  unfold dueM
  rw [if_neg hy]
  exact hi y hy
theorem send_any {w : World} {p b n N : Nat} {rsd : Int} {M M' : Mp} (G : LkAt w p b n (N : Int) rsd M) (t : Tl) (now : Int) (hN : N ≤ 8) (hn : n < 1000000) {ta : Tl} {te : Int} (hs : Snd N M t now ta te M') :
    Calls Try.prog 13 #[.pointer (some ⟨p, 0, none⟩), .agg (tlA t), .int .i64 now] w fun e w' => e = .returned (.tuple #[.agg (tlA ta), .int .i64 te]) ∧ LkAt w' p b (n + 1) (N : Int) rsd M' ∧ w.grownBy w' (some b) := by
  by_cases h : okS N t
  · obtain ⟨rfl, rfl, rfl⟩ := hs.yes h
    exact send_ok G _ now h.1 h.2.1 h.2.2 (wf64_of (by have := h.1; omega) (by have := h.2.1; omega)) hn
  · obtain ⟨rfl, rfl, rfl⟩ := hs.no h
    refine (send_no G t now h).mono ?_
    rintro e w' ⟨rfl, b1⟩
    exact ⟨rfl, ⟨(G.go b1).at_, (G.go b1).map.mono (by omega)⟩, grown_of b1⟩
theorem rsend_any {w : World} {r g N : Nat} {rsd : Int} {M : Mp} {M' : Mp} (G : RAt w r g N rsd M) (t : Tl) (now : Int) {ta : Tl} {te : Int} (hs : Snd N M t now ta te M') :
    Calls Try.prog 14 #[.pointer (some ⟨r, 0, none⟩), .agg (tlA t), .int .i64 now] w fun e w' => e = .returned (.tuple #[.agg (tlA ta), .int .i64 te]) ∧ RAt w' r g N rsd M' ∧ w.grownBy w' (some g) := by
  by_cases h : okS N t
  · obtain ⟨rfl, rfl, rfl⟩ := hs.yes h
    exact rsend_ok G _ now h.1 h.2.1 h.2.2
  · obtain ⟨rfl, rfl, rfl⟩ := hs.no h
    refine (rsend_no G t now h).mono ?_
    rintro e w' ⟨rfl, b1⟩
    exact ⟨rfl, G.go b1, grown_of b1⟩
theorem rgot_any {w : World} {r g N : Nat} {rsd : Int} {M : Mp} (G : RAt w r g N rsd M) (hi : In N M) (x : Int) : Calls Try.prog 16 #[.pointer (some ⟨r, 0, none⟩), .int .i64 x] w fun e w' => e = .returned (.bool (M x).isSome) ∧ RAt w' r g N rsd (upd M x none) ∧ w.grownBy w' (some g) := by
  by_cases h : 0 ≤ x ∧ x < (N : Int)
  · obtain ⟨k, rfl⟩ : ∃ k : Nat, x = (k : Int) := ⟨x.toNat, by omega⟩
    have hk : k < N := by omega
    cases hM : M (k : Int) with
    | none =>
      refine (rgot_off G k hk hM).mono ?_
      rintro e w' ⟨rfl, rfl⟩
      refine ⟨rfl, G.like (fun i _ => ?_), World.grownBy.refl _ _⟩
      unfold upd
      by_cases e : (i : Int) = (k : Int)
      · rw [if_pos e, e, hM]
      · rw [if_neg e]
    | some s => exact rgot_on G k hk (by rw [hM]; rfl)
  · rw [hi x h]
    refine (rgot_out G x (by omega)).mono ?_
    rintro e w' ⟨rfl, rfl⟩
    exact ⟨rfl, G.like (fun i hi' => by unfold upd; rw [if_neg (by omega)]), World.grownBy.refl _ _⟩
theorem rwaits_any {w : World} {r g N : Nat} {rsd : Int} {M : Mp} (G : RAt w r g N rsd M) (hi : In N M) (x : Int) : Calls Try.prog 23 #[.pointer (some ⟨r, 0, none⟩), .int .i64 x] w fun e w' => e = .returned (.tuple #[.agg (tlA (tlOf (M x))), .bool (M x).isSome]) ∧ Below w.heap.size w w' := by
  by_cases h : 0 ≤ x ∧ x < (N : Int)
  · obtain ⟨k, rfl⟩ : ∃ k : Nat, x = (k : Int) := ⟨x.toNat, by omega⟩
    exact rwaits_in G k (by omega)
  · rw [hi x h]
    by_cases h1 : x < 0
    · exact rwaits_out0 G x h1
    · exact rwaits_out1 G x h1 (by omega)
/- A call that is asked for, in a block of its own. -/
theorem cl_kd {w : World} {g : Nat} {c : Cl} {T : TypeId} {fr : Nat × Nat} (h : w.heap[g]? = some (.cells (clA c) T fr)) : w.cell? ⟨g, 0, none⟩ = some (.int .i64 c.kd) := by
  have e : (clA c)[0]? = some (.int .i64 c.kd) := rfl
  simpa [World.cell?, h] using e
theorem cl_rb {w : World} {g : Nat} {c : Cl} {T : TypeId} {fr : Nat × Nat} (h : w.heap[g]? = some (.cells (clA c) T fr)) : w.cell? ⟨g, 1, none⟩ = some (.int .i64 c.rb) := by
  have e : (clA c)[1]? = some (.int .i64 c.rb) := rfl
  simpa [World.cell?, h] using e
theorem cl_now {w : World} {g : Nat} {c : Cl} {T : TypeId} {fr : Nat × Nat} (h : w.heap[g]? = some (.cells (clA c) T fr)) : w.cell? ⟨g, 2, none⟩ = some (.int .i64 c.now) := by
  have e : (clA c)[2]? = some (.int .i64 c.now) := rfl
  simpa [World.cell?, h] using e
theorem cl_te {w : World} {g : Nat} {c : Cl} {T : TypeId} {fr : Nat × Nat} (h : w.heap[g]? = some (.cells (clA c) T fr)) : (loadVar 37 ⟨g, 3, none⟩).run Try.prog w = .ok (.agg (tlA c.te)) w :=
  run_loadVar_at w _ _ _ (fun j v hv => by
    rw [add_at]
    have e : (clA c)[3 + j]? = some v := by
      unfold tlA at hv
      unfold clA clL
      rw [List.getElem?_toArray] at hv ⊢
      rw [List.getElem?_append_right (by simp)]
      simpa using hv
    simpa [World.cell?, h] using e) (aggTele _) infoTele
def cl0 : Cl := ⟨0, 0, 0, tl0⟩
theorem zeroCl (w : World) : (zeroValue 39).run Try.prog w = .ok (.agg (clA cl0)) w := by kernel_rfl
theorem clA_one (c : Cl) : (clA c).all (·.oneCell') = true := by
  simp only [clA, clL, tlL, List.cons_append, List.nil_append]
  simp [Value.oneCell']
end Go.Proofs.Ytjladfpfhhnagaa.Lk
