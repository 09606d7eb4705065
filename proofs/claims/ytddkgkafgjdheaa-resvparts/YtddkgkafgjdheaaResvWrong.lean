/-
  Whether a want may be; whether one of many may not.
-/
import Derived.Test.YtddkgkafgjdheaaResvWith
namespace Go.Proofs.Ytddkgkafgjdheaa.Rs
set_option linter.unusedVariables false
set_option linter.unusedSimpArgs false
open Go Go.RowKit Go.Shelf Go.Proofs Hp
attribute [local go_sem] Oper.semAt_some

def badW (n : Nat) (x : Wn) : Bool := !(isThere n x.c) || decide (x.f < 0) || decide (x.t ≤ x.f) || decide (FV < x.t)
set_option maxRecDepth 100000 in
set_option maxHeartbeats 1000000 in
theorem wrong_any (F : Nat → Prop) (b : Nat) (ls : List (List Sl)) (x : Wn) (w : World) (h : TAt F w b ls) :
    Calls Try.prog 43 #[.pointer (some ⟨b, 0, none⟩), .agg #[.int .i64 x.c, .int .i64 x.f, .int .i64 x.t]] w fun e w' => e = .returned (.bool (badW ls.length x)) ∧ Below w.heap.size w w' := by
  have b1 : Below w.heap.size w (w.alloc (.cells #[.int .i64 x.c, .int .i64 x.f, .int .i64 x.t] 46)) := (Below.refl _ _).alloc (Nat.le_refl _) _
  have cT := there_any F b ls x.c _ (h.go b1)
  have hv : badW ls.length x = (!(isThere ls.length x.c) || decide (x.f < 0) || decide (x.t ≤ x.f) || decide (FV < x.t)) := rfl
  generalize badW ls.length x = r at *
  have hbl := h.at.2
  clear h
  cases ht : isThere ls.length x.c with
  | false =>
    rw [ht] at cT hv
    obtain rfl : r = true := by rw [hv]; rfl
    clear hv
    go_enter Try.func43, Try.ntmps43
    go_wp2_with (go_at_call 47; refine cT.mono ?_; rintro e w1 ⟨rfl, rfl⟩)
    go_ret
    exact ⟨rfl, b1⟩
  | true =>
    rw [ht] at cT hv
    by_cases h1 : x.f < 0
    · obtain rfl : r = true := by rw [hv]; simp [h1]
      clear hv
      go_enter Try.func43, Try.ntmps43
      go_wp2_with (go_at_call 47; refine cT.mono ?_; rintro e w1 ⟨rfl, rfl⟩)
      go_ret
      exact ⟨rfl, b1⟩
    · by_cases h2 : x.t ≤ x.f
      · obtain rfl : r = true := by rw [hv]; simp [h2]
        clear hv
        have h2' : x.f ≥ x.t := h2
        go_enter Try.func43, Try.ntmps43
        go_wp2_with (go_at_call 47; refine cT.mono ?_; rintro e w1 ⟨rfl, rfl⟩)
        go_ret
        exact ⟨rfl, b1⟩
      · have h2' : ¬ x.f ≥ x.t := h2
        by_cases h3 : FV < x.t
        · obtain rfl : r = true := by rw [hv]; simp [h3]
          clear hv
          have h3' : x.t > 4611686018427387904 := h3
          go_enter Try.func43, Try.ntmps43
          go_wp2_with (go_at_call 47; refine cT.mono ?_; rintro e w1 ⟨rfl, rfl⟩)
          go_ret
          exact ⟨rfl, b1⟩
        · obtain rfl : r = false := by rw [hv]; simp [h1, h2, h3]
          clear hv
          have h3' : ¬ x.t > 4611686018427387904 := h3
          have h4' : decide (x.t > 4611686018427387904) = false := decide_eq_false h3
          go_enter Try.func43, Try.ntmps43
          go_wp2_with (go_at_call 47; refine cT.mono ?_; rintro e w1 ⟨rfl, rfl⟩)
          go_ret
          first | exact ⟨rfl, b1⟩ | exact ⟨ret_bool (by simp [h1, h2]), b1⟩
theorem any_take_succ (p : Wn → Bool) (l : List Wn) (i : Nat) (hi : i < l.length) (h0 : (l.take i).any p = false) : (l.take (i + 1)).any p = p l[i] := by
  rw [List.take_succ_eq_append_getElem hi, List.any_append, h0]; simp
set_option maxRecDepth 100000 in
set_option maxHeartbeats 2000000 in
theorem index_any (F G : Nat → Prop) (b : Nat) (ls : List (List Sl)) (lv : Value) (l : List Wn) (w : World) (h : TAt F w b ls) (R : RowAt wnL G w lv l) (hb : l.length ≤ 1000000000) :
    Calls Try.prog 60 #[lv, .func (.func 43) #[.pointer (some ⟨b, 0, none⟩)] #[]] w fun e w' => ∃ k : Int, e = .returned (.int .i64 k) ∧ decide (0 ≤ k) = l.any (badW ls.length) ∧ Below w.heap.size w w' := by
  have HT : Hid (TAt F w b ls) := h
  have HR : Hid (RowAt wnL G w lv l) := R
  obtain ⟨a, cap, rfl, _⟩ := R.form
  have HB : Hid _ := hb
  clear h R hb
  go_enter Try.func60, Try.ntmps60
  go_wp2
  go_loopw [8] (fun s8 wr => ∃ i : Nat, s8 = .int .i64 i ∧ i ≤ l.length ∧ Hid ((l.take i).any (badW ls.length) = false) ∧ Hid (Below w.heap.size w wr)) (fun s8 _ => l.length - (intOf s8).toNat)
  case atStart => exact ⟨0, rfl, Nat.zero_le _, by unfold Hid; simp, Below.refl _ _⟩
  case round =>
    obtain ⟨i, rfl, hi, hA, bw⟩ := hrel
    rcases Nat.lt_or_ge i l.length with hlt | hge
    · obtain ⟨g, o, cap2, e2, _, _, _, C⟩ := (HR.out.go wnL_len bw.out).has (by omega)
      cases e2
      have c0 := C.at wnL_len i hlt 0 _ rfl
      have c1 := C.at wnL_len i hlt 1 _ rfl
      have c2 := C.at wnL_len i hlt 2 _ rfl
      rw [Nat.add_zero] at c0
      have hlt' : (i : Int) < (l.length : Int) := by omega
      have hsm : (i : Int) + 1 ≤ 1000000000 := by have := HB.out; omega
      have cW := wrong_any F b ls l[i] wr (HT.out.go bw.out)
      have hS := any_take_succ (badW ls.length) l i hlt hA.out
      have hE : badW ls.length l[i] = true → l.any (badW ls.length) = true := fun q => List.any_eq_true.2 ⟨l[i], List.getElem_mem _, q⟩
      obtain ⟨x, hx⟩ : ∃ x, l[i] = x := ⟨_, rfl⟩
      rw [hx] at c0 c1 c2 cW hS hE
      have HS : Hid _ := hS
      have HE : Hid (badW ls.length x = true → l.any (badW ls.length) = true) := hE
      clear hx C hS hE
      cases hbw : badW ls.length x with
      | true =>
        rw [hbw] at cW
        have HW : Hid (badW ls.length x = true) := hbw
        clear hbw
        go_wp2_with (go_at_call 43; refine cW.mono ?_; rintro e w1 ⟨rfl, b1⟩)
        go_ret
        exact ⟨i, rfl, by rw [HE.out HW.out]; simp, bcat bw.out b1⟩
      | false =>
        rw [hbw] at cW
        have HW : Hid (badW ls.length x = false) := hbw
        clear hbw
        go_wp2_with (go_at_call 43; refine cW.mono ?_; rintro e w1 ⟨rfl, b1⟩)
        go_roundw
        case measure => simp only [intOf]; omega
        case rel => exact ⟨i + 1, rfl, hlt, by unfold Hid; rw [HS.out, HW.out], bcat bw.out b1⟩
    · obtain rfl : i = l.length := by omega
      have hA' := hA.out
      rw [List.take_length] at hA'
      have HA : Hid _ := hA'
      clear hA'
      go_wp2
      go_ret
      exact ⟨-1, rfl, by rw [HA.out]; rfl, bw.out⟩
theorem contains_any (F G : Nat → Prop) (b : Nat) (ls : List (List Sl)) (lv : Value) (l : List Wn) (w : World) (h : TAt F w b ls) (R : RowAt wnL G w lv l) (hb : l.length ≤ 1000000000) :
    Calls Try.prog 42 #[lv, .func (.func 43) #[.pointer (some ⟨b, 0, none⟩)] #[]] w fun e w' => e = .returned (.bool (l.any (badW ls.length))) ∧ Below w.heap.size w w' := by
  have cI := index_any F G b ls lv l w h R hb
  generalize l.any (badW ls.length) = r at *
  clear h R hb
  go_enter Try.func42, Try.ntmps42
  go_wp2_with (go_at_call 60; refine cI.mono ?_; rintro e w1 ⟨k, rfl, hk, b1⟩)
  go_ret
  exact ⟨ret_bool (by rw [← hk]), b1⟩
/- The outer slice, copied. -/
set_option maxHeartbeats 1000000 in
theorem cloneRows_any (v : Value) (n : Nat) (vals : List Value) (w : World) (own : w.ownsRow 0 37 1 v n vals) (h1 : ∀ u ∈ vals, u.oneCell' = true) (h0 : 0 < n) (hm : n ≤ 1000000) :
    Calls Try.prog 44 #[v] w fun e w' => ∃ v', e = .returned v' ∧ w'.ownsRow w.heap.size 37 1 v' n vals ∧ Below w.heap.size w w' := by
  have hu := fun w a l c => eql_nil w 66 37 a l c Try.underlying66
  rcases own.2 with ⟨_, q⟩ | ⟨g, cap, cur, rfl, hb, hg, hnc, hcm, hcs, htake⟩
  · omega
  obtain ⟨i0, hi, hz0, hz1, hz2⟩ := info_parts infoRow
  obtain ⟨w0, hw0⟩ : ∃ w0, w.alloc (.cells #[] 37) = w0 := ⟨_, rfl⟩
  have b0 : Below w.heap.size w w0 := by rw [← hw0]; exact (Below.refl _ _).alloc (Nat.le_refl _) _
  have o0 : w0.ownsRow w.heap.size 37 1 (.slice (some ⟨w.heap.size, 0, none⟩) 0 0) 0 [] := by rw [← hw0]; exact World.ownsRow_made w #[] 0 (Nat.le_refl _) (by decide) (by decide)
  have own0 := owns_go own b0
  have hl : vals.length = n := by have := own.1; simpa using this
  have hrun := fun ty => run_append_own_at (P := Try.prog) w0 w.heap.size 66 ty 37 i0 _ 1 24 Try.underlying66 hi hz0 hz1 hz2 rfl (by decide) (.slice (some ⟨w.heap.size, 0, none⟩) 0 0) 0 [] o0 ⟨g, 0, none⟩ n cap vals (by omega) (fun j u hj => by
    rw [Addr.add_lit, Nat.zero_add, own0.cellAt j (by have := (List.getElem?_eq_some_iff.1 hj).1; omega)]; exact hj) h1 (by unfold maxLen; omega) (by omega) b0.size
  have HW : Hid (w.alloc (.cells #[] 37) = w0) := hw0
  clear hw0
  go_enter Try.func44, Try.ntmps44
  go_wp2_with (at_builtin; rw [HW.out]; obtain ⟨v', w', hr, ho, hgr, _, hat⟩ := hrun _; refine Lib.wpList_append_run _ rfl _ _ _ _ rfl _ _ rfl rfl _ _ hr ?_)
  go_ret
  exact ⟨_, rfl, by simpa using ho, b0.grown hgr b0.size (fun k hk => by cases hk; exact Nat.le_refl _)⟩
end Go.Proofs.Ytddkgkafgjdheaa.Rs
