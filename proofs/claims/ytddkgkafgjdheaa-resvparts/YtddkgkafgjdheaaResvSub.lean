/-
  A part of a list in memory.
-/
import Derived.Test.YtddkgkafgjdheaaResvTog
namespace Go.Proofs.Ytddkgkafgjdheaa.Rs
set_option linter.unusedVariables false
set_option linter.unusedSimpArgs false
open Go Go.RowKit Go.Shelf Go.Proofs Hp
attribute [local go_sem] Oper.semAt_some
theorem RowAt.shape {F : Nat → Prop} {w : World} {v : Value} {l : List Sl} (h : RowAt slL F w v l) : ∃ a n c, v = .slice a n c := by
  obtain ⟨a, c, e, _⟩ := h.form
  exact ⟨a, _, c, e⟩
theorem RowAt.part {F : Nat → Prop} {w : World} {g o cap : Nat} {l : List Sl} (h2 : cap ≤ maxLen) (h3 : 0 < l.length → F g) (hc : Cs slL w g o l) (i j : Nat) (hij : i ≤ j) (hj : j ≤ l.length) (hlc : l.length ≤ cap) (a : Addr) (ha : a = ⟨g, o + i * 3, none⟩ ∨ (cap = i ∧ a = ⟨g, o, none⟩)) : RowAt slL F w (.slice (some a) (j - i) (cap - i)) ((l.take j).drop i) := by
  have e : ((l.take j).drop i).length = j - i := by rw [List.length_drop, List.length_take]; omega
  rcases ha with rfl | ⟨h, rfl⟩
  · exact Or.inr ⟨g, o + i * 3, cap - i, by rw [e], by omega, by omega, fun q => h3 (by omega), (hc.take slL_len j).drop slL_len i⟩
  · refine Or.inr ⟨g, o, cap - i, by rw [e], by omega, by omega, fun q => h3 (by omega), ?_⟩
    have : (l.take j).drop i = [] := List.eq_nil_of_length_eq_zero (by rw [e]; omega)
    rw [this]
    intro k u hk
    simp [rowL] at hk
theorem run_sub {F : Nat → Prop} {w : World} {v : Value} {l : List Sl} (h : RowAt slL F w v l) (i j : Nat) (hij : i ≤ j) (hj : j ≤ l.length) : ∃ v', (∀ u, (Instr.sliceAt 37 v (some (.int .i64 i)) (some (.int .i64 j)) none).run Try.prog u = .ok v' u) ∧ RowAt slL F w v' ((l.take j).drop i) := by
  rcases h with ⟨rfl, rfl⟩ | ⟨g, o, cap, rfl, h1, h2, h3, h4⟩
  · simp at hj
    subst hj
    obtain rfl : i = 0 := by omega
    refine ⟨.slice none 0 0, ?_, RowAt.nil _ _ _⟩
    intro u
    go_simp
  · have a1 : (i : Int) ≤ (j : Int) := by omega
    have a2 : (j : Int) ≤ (cap : Int) := by omega
    by_cases hc : cap = i
    · refine ⟨_, ?_, RowAt.part h2 h3 h4 i j hij hj h1 ⟨g, o, none⟩ (Or.inr ⟨hc, rfl⟩)⟩
      subst hc
      intro u
      go_simp
    · refine ⟨_, ?_, RowAt.part h2 h3 h4 i j hij hj h1 ⟨g, o + i * 3, none⟩ (Or.inl rfl)⟩
      intro u
      go_simp
theorem run_sub_to {F : Nat → Prop} {w : World} {v : Value} {l : List Sl} (h : RowAt slL F w v l) (j : Nat) (hj : j ≤ l.length) : ∃ v', (∀ u, (Instr.sliceAt 37 v none (some (.int .i64 j)) none).run Try.prog u = .ok v' u) ∧ RowAt slL F w v' (l.take j) := by
  rcases h with ⟨rfl, rfl⟩ | ⟨g, o, cap, rfl, h1, h2, h3, h4⟩
  · simp at hj
    subst hj
    refine ⟨.slice none 0 0, ?_, RowAt.nil _ _ _⟩
    intro u
    go_simp
  · have a2 : (j : Int) ≤ (cap : Int) := by omega
    have e : (l.take j).length = j := by rw [List.length_take]; omega
    refine ⟨.slice (some ⟨g, o, none⟩) j cap, ?_, Or.inr ⟨g, o, cap, by rw [e], by omega, h2, fun q => h3 (by omega), h4.take slL_len j⟩⟩
    intro u
    go_simp
theorem run_sub_from {F : Nat → Prop} {w : World} {v : Value} {l : List Sl} (h : RowAt slL F w v l) (i : Nat) (hi : i ≤ l.length) : ∃ v', (∀ u, (Instr.sliceAt 37 v (some (.int .i64 i)) none none).run Try.prog u = .ok v' u) ∧ RowAt slL F w v' (l.drop i) := by
  rcases h with ⟨rfl, rfl⟩ | ⟨g, o, cap, rfl, h1, h2, h3, h4⟩
  · simp at hi
    subst hi
    refine ⟨.slice none 0 0, ?_, RowAt.nil _ _ _⟩
    intro u
    go_simp
  · have a1 : (i : Int) ≤ (l.length : Int) := by omega
    have e : (l.take l.length).drop i = l.drop i := by rw [List.take_length]
    by_cases hc : cap = i
    · have := RowAt.part h2 h3 h4 i l.length hi (Nat.le_refl _) h1 ⟨g, o, none⟩ (Or.inr ⟨hc, rfl⟩)
      rw [e] at this
      refine ⟨_, ?_, this⟩
      subst hc
      intro u
      go_simp
    · have := RowAt.part h2 h3 h4 i l.length hi (Nat.le_refl _) h1 ⟨g, o + i * 3, none⟩ (Or.inl rfl)
      rw [e] at this
      refine ⟨_, ?_, this⟩
      intro u
      go_simp
theorem run_sub_op {o : Oper} {a : Act} {w : World} {v' : Value} (t : TypeId) (x : Operand) (lo hi : Option Operand) (ho : o.op = .slice t x lo hi none) (h : (Instr.sliceAt t (a.eval x) (lo.map a.eval) (hi.map a.eval) none).run Try.prog w = .ok v' w) : (execOp a.eval o).run Try.prog w = .ok (.value v') w := by
  unfold execOp
  simp only [ho, Option.map_none, Sem.run_bind, Sem.run_pure, h, Result.andThen_ok]
theorem wpList_sub {w : World} {ops : Array Oper} {rest : List Oper} {o : Oper} {a : Act} {Q : Exit → Act → World → Prop} {v' : Value} (hgd : o.guard = none) (t : TypeId) (x : Operand) (lo hi : Option Operand) (ho : o.op = .slice t x lo hi none) (h : (Instr.sliceAt t (a.eval x) (lo.map a.eval) (hi.map a.eval) none).run Try.prog w = .ok v' w)
    (hK : wpList Try.prog ops Q rest (a.put o.dst v') w) : wpList Try.prog ops Q (o :: rest) a w :=
  wpList_plain hgd fun _ hK' => by
    unfold Oper.wp
    rw [run_sub_op t x lo hi ho h]
    exact hK' _ _ hK
end Go.Proofs.Ytddkgkafgjdheaa.Rs
