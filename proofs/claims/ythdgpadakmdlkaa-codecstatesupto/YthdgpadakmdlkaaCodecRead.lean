/-
  The reader of package codec: how many bytes are left, a number, a bool: it goes on, or gives up by a panic with ErrBytes.
-/
import Derived.Test.YthdgpadakmdlkaaCodecFirst
namespace Go.Proofs.Ythdgpadakmdlkaa.Codec
set_option linter.unusedVariables false
set_option linter.unusedSimpArgs false
open Go Go.RowKit

/- A reader that lies in block R: the bytes, and where it stands. -/
structure Rd (w : World) (R : Nat) (a : Option Addr) (cap : Nat) (zs : List Int) (k : Nat) : Prop where
  s : w.cell? ⟨R, 0, none⟩ = some (.slice a zs.length cap)
  i : w.cell? ⟨R, 1, none⟩ = some (.int .i64 k)
  fz : w.frozen? ⟨R, 1, none⟩ = false
  row : Row w a zs.length zs
  apart : ∀ x, a = some x → zs.length ≠ 0 → x.block ≠ R
  le : k ≤ zs.length
  cap1 : zs.length ≤ cap
  cap2 : cap ≤ 9223372036854775807
  nil : a = none → cap = 0
theorem Rd.lt {w : World} {R : Nat} {a : Option Addr} {cap : Nat} {zs : List Int} {k : Nat} (h : Rd w R a cap zs k) : R < w.heap.size := World.block_lt_of_cell? w _ h.s
theorem Rd.small {w : World} {R : Nat} {a : Option Addr} {cap : Nat} {zs : List Int} {k : Nat} (h : Rd w R a cap zs k) : Bytes zs := h.row.small
theorem Rd.same {w w' : World} {R : Nat} {a : Option Addr} {cap : Nat} {zs : List Int} {k : Nat} (h : Rd w R a cap zs k) (hb : Below w.heap.size w w') : Rd w' R a cap zs k :=
  ⟨(hb.cell (p := ⟨R, 0, none⟩) h.lt).trans h.s, (hb.cell (p := ⟨R, 1, none⟩) h.lt).trans h.i, (hb.frozen (p := ⟨R, 1, none⟩) h.lt).trans h.fz, h.row.after hb, h.apart, h.le, h.cap1, h.cap2, h.nil⟩

theorem below_drewN (w : World) (m : Nat) : Below w.heap.size w (w.drewN m) := ⟨rfl, rfl, rfl, Nat.le_refl _, fun _ _ => rfl⟩
theorem Rd.drewN {w : World} {R : Nat} {a : Option Addr} {cap : Nat} {zs : List Int} {k : Nat} (h : Rd w R a cap zs k) (m : Nat) : Rd (w.drewN m) R a cap zs k := h.same (below_drewN w m)
theorem grown_drewN (w : World) (m : Nat) (row : Option Nat) : w.grownBy (w.drewN m) row := ⟨rfl, rfl, rfl, Nat.le_refl _, fun _ _ _ => rfl⟩
theorem grown_setCell (w : World) (a : Addr) (u : Value) : w.grownBy (w.setCell a u) (some a.block) := ⟨rfl, rfl, rfl, by simp, fun k _ hk => heap_setCell_other w a k u (fun e => hk (by rw [e]))⟩
theorem Rd.step {w : World} {R : Nat} {a : Option Addr} {cap : Nat} {zs : List Int} {k : Nat} (h : Rd w R a cap zs k) (k' : Nat) (hk : k' ≤ zs.length) :
    Rd (w.setCell ⟨R, 1, none⟩ (.int .i64 k')) R a cap zs k' ∧ w.grownBy (w.setCell ⟨R, 1, none⟩ (.int .i64 k')) (some R) := by
  refine ⟨⟨?_, ?_, ?_, ⟨h.row.len, h.row.small, fun i hi => ?_⟩, h.apart, hk, h.cap1, h.cap2, h.nil⟩, ?_⟩
  · rw [World.cell?_setCell_other _ _ _ _ (by simp)]; exact h.s
  · exact World.cell?_setCell_same _ _ _ h.i
  · rw [World.frozen?_setCell]; exact h.fz
  · obtain ⟨x, hx, hc⟩ := h.row.cell i hi
    refine ⟨x, hx, ?_⟩
    rw [World.cell?_setCell_other _ _ _ _ (fun e => h.apart x hx (by omega) (by rw [← block_add x i, ← e]))]
    exact hc
  · exact grown_setCell w ⟨R, 1, none⟩ _

set_option maxHeartbeats 1000000 in
theorem left_any (w : World) (R : Nat) (a : Option Addr) (cap : Nat) (zs : List Int) (k : Nat) (h : Rd w R a cap zs k) :
    Calls Try.prog 66 #[.pointer (some ⟨R, 0, none⟩)] w fun e w' => e = .returned (.int .i64 ((zs.length - k : Nat) : Int)) ∧ ∃ m, w' = w.drewN m := by
  have h1 := h.s
  have h2 := h.i
  have h3 := h.le
  have h4 := h.cap1
  have h5 := h.cap2
  have H : Hid ((zs.length : Int) - k = ((zs.length - k : Nat) : Int)) := by show (zs.length : Int) - k = _; omega
  generalize ((zs.length - k : Nat) : Int) = D at *
  generalize zs.length = L at *
  go_enter Try.func66, Try.ntmps66
  go_wp2
  go_quiet (fail)
  go_wp2
  go_ret
  exact ⟨ret_int H.out, nq, rfl⟩

theorem first_len (a : Option Addr) (n cap : Nat) (zs : List Int) (hn : zs.length = n) (w : World) (hr : Row w a n zs) (hm : n ≤ 9223372036854775807) (hc : n ≤ cap) (hc2 : cap ≤ 9223372036854775807) (h0 : a = none → cap = 0) :
    Calls Try.prog 98 #[.slice a n cap] w fun e w' => e = .returned (.tuple #[.int .i64 (fnum zs).1, .int .i64 (fnum zs).2]) ∧ w' = w := by
  subst hn
  exact first_any a cap zs w hr hm hc hc2 h0

/- How the reader gives up. -/
def gaveUp : Ending := .panicked [{ v := .iface 32 (.int .i64 4), recovered := false }]
set_option maxHeartbeats 1000000 in
theorem giveUp_any (w : World) : Calls Try.prog 67 #[] w fun e w' => e = gaveUp ∧ w' = w := by
  go_enter Try.func67, Try.ntmps67
  go_wp2
  exact ⟨rfl, rfl, rfl⟩

/- What a call that reads a plain thing comes to. -/
def Reads {α : Type} (c : Cod α) (val : α → Value) (w : World) (R : Nat) (a : Option Addr) (cap : Nat) (zs : List Int) (k : Nat) (e : Ending) (w' : World) : Prop :=
  (∃ x k', c.get (zs.drop k) = some (x, zs.drop k') ∧ k < k' ∧ c.ok x ∧ e = .returned (val x) ∧ Rd w' R a cap zs k' ∧ w.grownBy w' (some R)) ∨
  (c.get (zs.drop k) = none ∧ e = gaveUp ∧ w.grownBy w' (some R))
def vInt (x : Int) : Value := .int .i64 x

set_option maxRecDepth 100000 in
set_option maxHeartbeats 1000000 in
theorem number_any (w : World) (R : Nat) (a : Option Addr) (cap : Nat) (zs : List Int) (k : Nat) (h : Rd w R a cap zs k) :
    Calls Try.prog 68 #[.pointer (some ⟨R, 0, none⟩)] w (Reads cNum vInt w R a cap zs k) := by
  have h1 := h.s
  have h2 := h.i
  have h3 := h.le
  have h4 := h.cap1
  have h5 := h.cap2
  have hf := h.fz
  have gU := giveUp_any
  unfold gaveUp at gU
  have h3' : (k : Int) ≤ (zs.length : Int) := by omega
  have h4' : (zs.length : Int) ≤ (cap : Int) := by omega
  cases a with
  | none =>
    obtain rfl : cap = 0 := h.nil rfl
    have hz : zs.length = 0 := by omega
    obtain rfl : zs = [] := List.eq_nil_of_length_eq_zero hz
    obtain rfl : k = 0 := by omega
    have c2 := fun m => first_len none 0 0 [] rfl (w.drewN m) (h.drewN m).row (by decide) (by decide) (by decide) (fun _ => rfl)
    have hf0 : fnum [] = (0, 0) := rfl
    rw [hf0] at c2
    have HG : Hid (cNum.get (List.drop 0 []) = none) := rfl
    clear hf0
    go_enter Try.func68, Try.ntmps68
    go_wp2
    go_quiet ((go_at_call 98; refine Calls.quiet_of_same (c2 _)))
    go_wp2_with (go_at_call 67; refine (gU _).mono ?_; rintro e w1 ⟨rfl, rfl⟩)
    exact ⟨rfl, Or.inr ⟨HG.out, rfl, grown_drewN _ _ _⟩⟩
  | some x =>
    by_cases hkc : k < cap
    · have c1 := fun u (hr : Row u (some x) zs.length zs) => first_len (some (x.add k)) (zs.length - k) (cap - k) (zs.drop k) (by rw [List.length_drop]) u (by have := hr.tail k h3 h4; rwa [if_neg (by omega)] at this) (by omega) (by omega) (by omega) (fun e => by cases e)
      have c2 := fun m => c1 (w.drewN m) (h.drewN m).row
      have hkc' : (k : Int) < (cap : Int) := by omega
      rcases fnum_cases (zs.drop k) (h.small.drop k) with ⟨v, n, e1, e2, e3, e4, e5⟩ | ⟨e1, e5⟩
      · rw [e5] at c2
        simp only at c2
        rw [List.length_drop] at e3
        have hn : ((n : Int) == 0) = false := by rw [beq_eq_false_iff_ne]; omega
        have hn2 : (k : Int) + n ≤ (zs.length : Int) := by omega
        have H : Hid (cNum.get (zs.drop k) = some (v, zs.drop (k + n)) ∧ I64 v) := ⟨by rw [← List.drop_drop]; exact e1, e4⟩
        have HS : Hid (∀ m, Rd ((w.drewN m).setCell ⟨R, 1, none⟩ (.int .i64 ((k + n : Nat) : Int))) R (some x) cap zs (k + n) ∧ w.grownBy ((w.drewN m).setCell ⟨R, 1, none⟩ (.int .i64 ((k + n : Nat) : Int))) (some R)) :=
          fun m => ⟨((h.drewN m).step (k + n) (by omega)).1, (grown_drewN w m _).trans ((h.drewN m).step (k + n) (by omega)).2⟩
        clear h
        generalize hL : zs.length = L at *
        clear e1 e4 e5 c1 hL
        go_enter Try.func68, Try.ntmps68
        go_wp2
        go_quiet ((go_at_call 98; refine Calls.quiet_of_same (c2 _)))
        go_wp2
        go_ret
        exact Or.inl ⟨v, k + n, H.out.1, by omega, H.out.2, rfl, (HS.out _).1, (HS.out _).2⟩
      · rw [e5] at c2
        have HG : Hid (cNum.get (zs.drop k) = none) := e1
        clear h
        generalize hL : zs.length = L at *
        clear e1 e5 c1 hL
        go_enter Try.func68, Try.ntmps68
        go_wp2
        go_quiet ((go_at_call 98; refine Calls.quiet_of_same (c2 _)))
        go_wp2_with (go_at_call 67; refine (gU _).mono ?_; rintro e w1 ⟨rfl, rfl⟩)
        exact ⟨rfl, Or.inr ⟨HG.out, rfl, grown_drewN _ _ _⟩⟩
    · obtain rfl : cap = k := by omega
      have hL : zs.length = cap := by omega
      have HG : Hid (cNum.get (zs.drop cap) = none) := by rw [List.drop_eq_nil_of_le (by omega)]; rfl
      have c2 := fun m => first_len (some x) 0 0 [] rfl (w.drewN m) ⟨rfl, by simp, fun i hi => by omega⟩ (by decide) (by decide) (by decide) (fun _ => rfl)
      have hf0 : fnum [] = (0, 0) := rfl
      rw [hf0] at c2
      rw [hL] at h1
      clear hf0 hL h3' h4' hkc h3 h4 h
      go_enter Try.func68, Try.ntmps68
      go_wp2
      go_quiet ((go_at_call 98; refine Calls.quiet_of_same (c2 _)))
      go_wp2_with (go_at_call 67; refine (gU _).mono ?_; rintro e w1 ⟨rfl, rfl⟩)
      exact ⟨rfl, Or.inr ⟨HG.out, rfl, grown_drewN _ _ _⟩⟩
end Go.Proofs.Ythdgpadakmdlkaa.Codec
