/-
  Stretches that were told; a table in which they are claimed.
-/
import Derived.Test.YtddkgkafgjdheaaResvWas
namespace Go.Proofs.Ytddkgkafgjdheaa.Rs
set_option linter.unusedVariables false
set_option linter.unusedSimpArgs false
open Go Go.RowKit Go.Shelf Go.Proofs Hp
attribute [local go_sem] Oper.semAt_some

/- Stretches that were told, beside a table. -/
def Pg (F : Nat → Prop) (w : World) (v : Value) (gs : List (Int × Int)) : Prop := RowAt prL (fun k => ¬ F k ∧ k < w.heap.size) w v gs
theorem Pg.turn {F F' : Nat → Prop} {w w' : World} {v : Value} {gs : List (Int × Int)} (h : Pg F w v gs) (t : Tn F F' w w') : Pg F' w' v gs :=
  (RowAt.same h fun k hk => t.block k hk.2 hk.1).mono fun k hk => ⟨fun e => (t.own k e).elim hk.1 fun q => by have := hk.2; omega, Nat.lt_of_lt_of_le hk.2 t.size⟩
theorem Pg.go {F : Nat → Prop} {w w' : World} {v : Value} {gs : List (Int × Int)} (h : Pg F w v gs) (hb : Below w.heap.size w w') : Pg F w' v gs := h.turn (Tn.below hb)
theorem Pg.at {F : Nat → Prop} {w : World} {v : Value} {gs : List (Int × Int)} (h : Pg F w v gs) (i : Nat) (hi : i < gs.length) : ∃ g o cap, v = .slice (some ⟨g, o, none⟩) gs.length cap ∧ g < w.heap.size ∧ ¬ F g ∧ w.cell? ⟨g, o + i * 2, none⟩ = some (.int .i64 (gs[i]).1) ∧ w.cell? ⟨g, o + i * 2 + 1, none⟩ = some (.int .i64 (gs[i]).2) := by
  obtain ⟨g, o, cap, rfl, c0, c1⟩ := box_pr h i hi
  obtain ⟨g', o', cap', e, _, _, hF, _⟩ := RowAt.has h (by omega)
  cases e
  exact ⟨g, o, cap, rfl, hF.2, hF.1, c0, c1⟩
theorem claimT {F : Nat → Prop} {b : Nat} {ls : List (List Sl)} {R : Int} {x : Wn} {m : Nat} {u : World} (h : TAt F u b ls) (hl : OkT ls) (hs : Small m ls) (hn : 0 < ls.length) (hn2 : ls.length ≤ 1000000) (hm : m ≤ 999999999) {e : Int} {ls' : List (List Sl)} (C : ClaimR R [x] ls e ls') :
    Calls Try.prog 19 #[.pointer (some ⟨b, 0, none⟩), .int .i64 R, .slice (some ⟨u.heap.size, 0, none⟩) 1 1] (u.alloc (.cells #[.int .i64 x.c, .int .i64 x.f, .int .i64 x.t] 46)) fun e' w' => ∃ v, e' = .returned v ∧ v = .int .i64 e ∧ ∃ F', TAt F' w' b ls' ∧ Tn F F' u w' :=
  (claim_lit F b ls R x m u h hl hs hn hn2 hm C).mono fun e' w' ⟨h1, h2⟩ => ⟨_, h1, rfl, h2⟩
theorem claimN {F : Nat → Prop} {b : Nat} {ls : List (List Sl)} {R : Int} {x : Wn} {m : Nat} {u : World} (h : TAt F u b ls) (hl : OkT ls) (hs : Small m ls) (hn : 0 < ls.length) (hn2 : ls.length ≤ 1000000) (hm : m ≤ 899999999) (hb : badArg R [x] ls.length = false) (hM : ¬ MetT R [x] ls) :
    Calls Try.prog 19 #[.pointer (some ⟨b, 0, none⟩), .int .i64 R, .slice (some ⟨u.heap.size, 0, none⟩) 1 1] (u.alloc (.cells #[.int .i64 x.c, .int .i64 x.f, .int .i64 x.t] 46)) fun e' w' => ∃ v, e' = .returned v ∧ v = .int .i64 0 ∧ ∃ F' l', TAt F' w' b l' ∧ Tn F F' u w' ∧ ClaimR R [x] ls 0 l' := by
  have b1 : Below u.heap.size u (u.alloc (.cells #[.int .i64 x.c, .int .i64 x.f, .int .i64 x.t] 46)) := (Below.refl _ _).alloc (Nat.le_refl _) _
  have n := cell_new u (.int .i64 x.c) (.int .i64 x.f) (.int .i64 x.t) 46
  refine (claim_any F (fun _ => True) b ls R _ [x] m _ (h.go b1) hl hs hn hn2 (want_row n.1 n.2.1 n.2.2) (by rw [List.length_singleton]; omega)).mono ?_
  rintro e' w' ⟨y, l2, F', rfl, T, t, c⟩
  have e0 := (c.done hb hM).1
  subst e0
  exact ⟨_, rfl, rfl, F', l2, T, (Tn.below b1).trans t, c⟩
/- A table in which the robot has claimed some of its stretches. -/
structure Gk (R : Int) (C : Nat) (L : List Sl) (n : Nat) (lk : List (List Sl)) : Prop where
  ok : OkT lk
  small : Small n lk
  len : lk.length = 6
  has : ∀ t r, r ≠ R → (Has (rowOf lk (C : Nat)) t r ↔ Has L t r)
theorem Gk.no_met {R : Int} {C : Nat} {L : List Sl} {n : Nat} {lk : List (List Sl)} (h : Gk R C L n lk) (hC : C < 6) {p : Int × Int} (hp : p.1 < p.2) (hf : ∀ t, p.1 ≤ t → t < p.2 → ∀ r, r ≠ R → ¬ Has L t r) : ¬ MetT R [⟨(C : Nat), p.1, p.2⟩] lk := by
  rintro ⟨i, hi, hm⟩
  rw [moreOf_one] at hm
  have hlC : C < lk.length := by rw [h.len]; exact hC
  by_cases e : C = i
  · subst e
    rw [if_pos rfl] at hm
    refine free_met (h.ok _ (List.getElem_mem hlC)) hp (fun t h1 h2 r hr hh => hf t h1 h2 r hr ?_) hm
    rw [← h.has t r hr, rowOf_nat _ C hlC]
    exact hh
  · rw [if_neg e] at hm
    obtain ⟨s, _, m, hm, _⟩ := hm
    cases hm
theorem Gk.next {R : Int} {C : Nat} {L : List Sl} {n : Nat} {lk l' : List (List Sl)} (h : Gk R C L n lk) (hC : C < 6) (hR : 0 ≤ R) {p : Int × Int} (hp : 0 ≤ p.1 ∧ p.1 < p.2 ∧ p.2 ≤ FV) (hf : ∀ t, p.1 ≤ t → t < p.2 → ∀ r, r ≠ R → ¬ Has L t r) (c : ClaimR R [⟨(C : Nat), p.1, p.2⟩] lk 0 l') : Gk R C L (n + 1) l' := by
  have hlC : C < lk.length := by rw [h.len]; exact hC
  have hb : badArg R [⟨(C : Nat), p.1, p.2⟩] lk.length = false := badArg_one hR hlC hp
  obtain ⟨_, hln, hW⟩ := c.done hb (h.no_met hC hp.2.1 hf)
  refine ⟨c.ok h.ok, fun l hl => by have := c.small h.small l hl; rw [List.length_singleton] at this; exact this, by rw [hln, h.len], fun t r hr => ?_⟩
  have w := hW C hlC (by omega)
  rw [moreOf_one, if_pos rfl] at w
  rw [rowOf_nat _ C (by omega), w.has, ← h.has t r hr, rowOf_nat _ C hlC]
  exact ⟨fun q => q.elim id fun q => absurd (has_more_r (R := R) (fun s hs => by rw [List.mem_singleton] at hs; rw [hs]) q) hr, Or.inl⟩
theorem Gk.gaps {R : Int} {C : Nat} {L : List Sl} {n : Nat} {lk : List (List Sl)} (h : Gk R C L n lk) (hL : Ok L) : gaps R 0 (rowOf lk (C : Nat)) = gaps R 0 L :=
  gaps_same (h.ok.row _) hL h.has 0
theorem below_dn {a w : World} {n : Nat} (h : Below n a w) (m : Nat) : Below n a (w.drewN m) := ⟨h.os, h.tape, h.output, h.size, h.block⟩
theorem row_of_own2 {w : World} {B : Nat} {e : TypeId} {v : Value} {l : List (Int × Int)} (h : w.ownsRow B e 2 v l.length (rowL prL l)) : RowAt prL (fun k => B ≤ k ∧ k < w.heap.size) w v l := by
  have R := pr_of_own h
  rcases Nat.eq_zero_or_pos l.length with z | z
  · obtain ⟨a, c, e, _⟩ := R.form
    rcases R with ⟨e1, e2⟩ | ⟨g, o, c', e1, h1, h2, h3, h4⟩
    · exact Or.inl ⟨e1, e2⟩
    · exact Or.inr ⟨g, o, c', e1, h1, h2, fun q => absurd q (by omega), h4⟩
  · obtain ⟨g, o, cap, e1, h1, h2, h3, h4⟩ := R.has z
    refine Or.inr ⟨g, o, cap, e1, h1, h2, fun _ => ⟨h3, ?_⟩, h4⟩
    cases l with
    | nil => simp at z
    | cons x l =>
      have q : (rowL prL (x :: l))[0]? = some (.int .i64 x.1) := by simp [rowL, prL]
      exact World.block_lt_of_cell? _ _ (h4 0 _ q)
end Go.Proofs.Ytddkgkafgjdheaa.Rs
