/-
  with: a cell's slots with more of them.
-/
import Derived.Test.YtddkgkafgjdheaaResvSub
namespace Go.Proofs.Ytddkgkafgjdheaa.Rs
set_option linter.unusedVariables false
set_option linter.unusedSimpArgs false
open Go Go.RowKit Go.Shelf Go.Proofs Hp
attribute [local go_sem] Oper.semAt_some

/- What with tells. -/
def WithR (F : Nat → Prop) (n : Nat) (l more : List Sl) (rv : Value) (ok : Bool) (w : World) : Prop :=
  (ok = false ∧ Two (l ++ more)) ∨ (ok = true ∧ ∃ l', With l more l' ∧ RowAt slL (fun k => F k ∨ n ≤ k) w rv l')
def WithPost (F : Nat → Prop) (l more : List Sl) (w : World) (e : Ending) (w' : World) : Prop := ∃ rv ok, e = .returned (.tuple #[rv, .bool ok]) ∧ Below w.heap.size w w' ∧ (∃ a n c, rv = .slice a n c) ∧ WithR F w.heap.size l more rv ok w'
set_option maxRecDepth 100000 in
set_option maxHeartbeats 1000000 in
theorem with_none (F : Nat → Prop) (lv : Value) (l : List Sl) (mv : Value) (w : World) (hl : Ok l) (R : RowAt slL F w lv l) (M : RowAt slL F w mv []) :
    Calls Try.prog 45 #[lv, mv] w (WithPost F l [] w) := by
  obtain ⟨a, cap, rfl, _⟩ := R.form
  obtain ⟨a2, cap2, rfl, _⟩ := M.form
  have HR : Hid (RowAt slL F w _ l) := R
  simp only [List.length_nil]
  clear R M
  go_enter Try.func45, Try.ntmps45
  go_wp2
  refine bodyPost_ret (results_tmp2 Try.results45 _ _ _) rfl ?_
  have b : Below w.heap.size w (w.alloc (.cells #[.slice a l.length cap] 37)) := (Below.refl _ _).alloc (Nat.le_refl _) _
  exact ⟨_, _, rfl, b, ⟨_, _, _, rfl⟩, Or.inr ⟨rfl, l, With.none hl, (HR.out.go slL_len b).mono fun k hk => Or.inl hk⟩⟩
theorem cell_new3 (w : World) (a b c : Value) (T : TypeId) : (w.drew.alloc (.cells #[a, b, c] T)).cell? ⟨w.heap.size, 0, none⟩ = some a ∧ (w.drew.alloc (.cells #[a, b, c] T)).cell? ⟨w.heap.size, 1, none⟩ = some b ∧ (w.drew.alloc (.cells #[a, b, c] T)).cell? ⟨w.heap.size, 2, none⟩ = some c := by
  have h : ∀ u : World, (u.alloc (.cells #[a, b, c] T)).cell? ⟨u.heap.size, 0, none⟩ = some a ∧ (u.alloc (.cells #[a, b, c] T)).cell? ⟨u.heap.size, 1, none⟩ = some b ∧ (u.alloc (.cells #[a, b, c] T)).cell? ⟨u.heap.size, 2, none⟩ = some c := fun u => by simp
  exact h w.drew
theorem concat2 (F : Nat → Prop) (x : Nat) (v1 v2 : Value) (l1 l2 : List Sl) (w : World) (c0 : w.cell? ⟨x, 0, none⟩ = some v1) (c1 : w.cell? ⟨x, 1, none⟩ = some v2) (r1 : RowAt slL F w v1 l1) (r2 : RowAt slL F w v2 l2) (hl : l1.length + l2.length ≤ 1000000000) :
    Calls Try.prog 64 #[.slice (some ⟨x, 0, none⟩) 2 2] w fun e w' => ∃ v, e = .returned v ∧ w'.ownsRow w.heap.size 40 3 v (l1 ++ l2).length (rowL slL (l1 ++ l2)) ∧ Below w.heap.size w w' := by
  have := concat_any F x 2 [v1, v2] [l1, l2] w rfl (fun i hi => by
    match i with
    | 0 => exact c0
    | 1 => exact c1
    | i + 2 => exact absurd hi (by simp)) rfl (fun i hi hi' => by
    match i with
    | 0 => exact r1
    | 1 => exact r2
    | i + 2 => exact absurd hi (by simp)) (by simp; omega) (by decide) (by decide)
  simpa using this
theorem concat3 (F : Nat → Prop) (x : Nat) (v1 v2 v3 : Value) (l1 l2 l3 : List Sl) (w : World) (c0 : w.cell? ⟨x, 0, none⟩ = some v1) (c1 : w.cell? ⟨x, 1, none⟩ = some v2) (c2 : w.cell? ⟨x, 2, none⟩ = some v3) (r1 : RowAt slL F w v1 l1) (r2 : RowAt slL F w v2 l2) (r3 : RowAt slL F w v3 l3) (hl : l1.length + l2.length + l3.length ≤ 1000000000) :
    Calls Try.prog 64 #[.slice (some ⟨x, 0, none⟩) 3 3] w fun e w' => ∃ v, e = .returned v ∧ w'.ownsRow w.heap.size 40 3 v (l1 ++ l2 ++ l3).length (rowL slL (l1 ++ l2 ++ l3)) ∧ Below w.heap.size w w' := by
  have := concat_any F x 3 [v1, v2, v3] [l1, l2, l3] w rfl (fun i hi => by
    match i with
    | 0 => exact c0
    | 1 => exact c1
    | 2 => exact c2
    | i + 3 => exact absurd hi (by simp)) rfl (fun i hi hi' => by
    match i with
    | 0 => exact r1
    | 1 => exact r2
    | 2 => exact r3
    | i + 3 => exact absurd hi (by simp)) (by simp; omega) (by decide) (by decide)
  simpa using this
theorem between {l : List Sl} {k1 k2 : Nat} {fr ut : Int} {m0 : Sl} {X : Prop} (hl : Ok l) (h1 : k1 ≤ l.length) (h2 : k2 ≤ l.length) (A1 : ∀ a ∈ l.take k1, decide (fr ≤ a.t) = false) (B2 : ∀ b ∈ l.drop k2, decide (ut < b.f) = true) (hm : fr ≤ m0.f ∧ m0.t ≤ ut ∧ X) (h0 : m0.f < m0.t) : k1 ≤ k2 := by
  rcases Nat.lt_or_ge k2 k1 with h | h
  · exfalso
    have hk : k2 < l.length := by omega
    have a := A1 l[k2] (List.mem_iff_getElem.2 ⟨k2, by rw [List.length_take]; omega, by rw [List.getElem_take]⟩)
    have b := B2 l[k2] (List.mem_iff_getElem.2 ⟨0, by rw [List.length_drop]; omega, by rw [List.getElem_drop]; rfl⟩)
    have f := (hl.fit l[k2] (List.getElem_mem _)).2.1
    have a' : ¬ fr ≤ (l[k2]).t := of_decide_eq_false a
    have b' : ut < (l[k2]).f := of_decide_eq_true b
    obtain ⟨c1, c2, _⟩ := hm
    omega
  · exact h
set_option maxRecDepth 100000 in
set_option maxHeartbeats 4000000 in
theorem with_some (F : Nat → Prop) (lv : Value) (l : List Sl) (mv : Value) (more : List Sl) (w : World) (hl : Ok l) (hm : ∀ s ∈ more, Fit s) (h0 : 0 < more.length) (hb : l.length + more.length ≤ 1000000000) (R : RowAt slL F w lv l) (M : RowAt slL F w mv more) :
    Calls Try.prog 45 #[lv, mv] w (WithPost F l more w) := by
  obtain ⟨a, cap, el, hlc, hlm, _⟩ := R.form
  obtain ⟨g, o, cap2, em, _, _, hg, C⟩ := M.has h0
  have HR : Hid (RowAt slL F w _ l) := R
  have HM : Hid (RowAt slL F w _ more) := M
  have HC : Hid (Cs slL w g o more) := C
  subst el
  subst em
  have hgw : g < w.heap.size := C.lt slL_len h0
  have HL : Hid _ := hl
  have HF : Hid _ := hm
  obtain ⟨W1, hW1⟩ : ∃ W1, w.alloc (.cells #[.slice a l.length cap] 37) = W1 := ⟨_, rfl⟩
  have b1 : Below w.heap.size w W1 := by rw [← hW1]; exact (Below.refl _ _).alloc (Nat.le_refl _) _
  have x0 : W1.cell? ⟨w.heap.size, 0, none⟩ = some (.slice a l.length cap) := by rw [← hW1]; simp
  have s1 : Hid (W1.heap.size = w.heap.size + 1) := by unfold Hid; rw [← hW1]; simp
  have hg1 : g < W1.heap.size := by have := s1.out; omega
  have hgt : (0 : Int) < (more.length : Int) := by omega
  have hne : ((more.length : Int) == 0) = false := by rw [beq_eq_false_iff_ne]; omega
  have C1 := C.go slL_len b1
  have c0 := C1.at slL_len 0 h0 0 _ rfl
  have c1 := C1.at slL_len 0 h0 1 _ rfl
  rw [Nat.zero_mul, Nat.add_zero] at c0 c1
  clear R M C C1 hl hm
  obtain ⟨m0, hm0⟩ : ∃ m0, more[0] = m0 := ⟨_, rfl⟩
  rw [hm0] at c0 c1
  have hm00 : m0.f < m0.t := by rw [← hm0]; exact (HF.out _ (List.getElem_mem _)).2.1
  clear hm0
  go_enter Try.func45, Try.ntmps45
  go_upto_region 3 with fail
  try rw [hW1]
  go_cut [6, 7] from 18 to 25 (fun s6 s7 wx => ∃ p6 p7, s6 = .pointer (some ⟨p6, 0, none⟩) ∧ s7 = .pointer (some ⟨p7, 0, none⟩) ∧ p6 ≠ p7 ∧ W1.heap.size ≤ p6 ∧ W1.heap.size ≤ p7 ∧ wx.cell? ⟨p6, 0, none⟩ = some (.int .i64 m0.f) ∧ wx.cell? ⟨p7, 0, none⟩ = some (.int .i64 m0.t) ∧ wx.frozen? ⟨p6, 0, none⟩ = false ∧ wx.frozen? ⟨p7, 0, none⟩ = false ∧ Hid (Below W1.heap.size W1 wx))
  case first =>
    go_region
    all_goals go_wp2_with fail
    all_goals go_meet
    · refine ⟨W1.heap.size, W1.heap.size + 1, rfl, rfl, by omega, by omega, by omega, by simp, by simp, by simp, by simp, ?_⟩
      exact (((((Below.refl _ _).alloc (Nat.le_refl _) _).alloc (by simp) _).drew))
    · refine ⟨W1.heap.size + 1, W1.heap.size, rfl, rfl, by omega, by omega, by omega, by simp, by simp, by simp, by simp, ?_⟩
      exact (((((Below.refl _ _).alloc (Nat.le_refl _) _).alloc (by simp) _).drew))
  case rest =>
    obtain ⟨p6, p7, rfl, rfl, hpn, hp6, hp7, d6, d7, f6, f7, b2⟩ := hcut
    clear c0 c1
    go_wp2_with fail
    go_loopw [28] (fun s28 wr => ∃ (i : Nat) (fr ut : Int), s28 = .int .i64 i ∧ i ≤ more.length ∧ wr.cell? ⟨p6, 0, none⟩ = some (.int .i64 fr) ∧ wr.cell? ⟨p7, 0, none⟩ = some (.int .i64 ut) ∧ wr.frozen? ⟨p6, 0, none⟩ = false ∧ wr.frozen? ⟨p7, 0, none⟩ = false ∧ Hid (Below W1.heap.size W1 wr) ∧ Hid (fr ≤ m0.f ∧ m0.t ≤ ut ∧ ∀ s ∈ more.take i, fr ≤ s.f ∧ s.t ≤ ut)) (fun s28 _ => more.length - (intOf s28).toNat)
    case atStart => exact ⟨0, m0.f, m0.t, rfl, Nat.zero_le _, d6, d7, f6, f7, b2, (⟨Int.le_refl _, Int.le_refl _, fun s hs => by simp at hs⟩ : m0.f ≤ m0.f ∧ m0.t ≤ m0.t ∧ ∀ s ∈ more.take 0, m0.f ≤ s.f ∧ s.t ≤ m0.t)⟩
    case round =>
      clear d6 d7 f6 f7 b2
      obtain ⟨i, fr, ut, rfl, hi, d6, d7, f6, f7, b2, Hm⟩ := hrel
      rcases Nat.lt_or_ge i more.length with hlt | hge
      · have Ci := (HC.out.go slL_len b1).go slL_len b2.out
        have cf := Ci.at slL_len i hlt 0 _ rfl
        have ct := Ci.at slL_len i hlt 1 _ rfl
        have cr := Ci.at slL_len i hlt 2 _ rfl
        rw [Nat.add_zero] at cf
        have hlt' : (i : Int) < (more.length : Int) := by omega
        have hsm : (i : Int) + 1 ≤ 1000000000 := by omega
        have hT : Hid (more.take (i + 1) = more.take i ++ [more[i]]) := List.take_succ_eq_append_getElem hlt
        obtain ⟨s, hs⟩ : ∃ s, more[i] = s := ⟨_, rfl⟩
        rw [hs] at cf ct cr hT
        have l6 : p6 < wr.heap.size := World.block_lt_of_cell? _ _ d6
        have l7 : p7 < wr.heap.size := World.block_lt_of_cell? _ _ d7
        clear hs Ci
        obtain ⟨w2, hw2⟩ : ∃ w2, wr.alloc (.cells #[.int .i64 s.f, .int .i64 s.t, .int .i64 s.r] 40) = w2 := ⟨_, rfl⟩
        have b3 : Below wr.heap.size wr w2 := by rw [← hw2]; exact (Below.refl _ _).alloc (Nat.le_refl _) _
        have e6 : w2.cell? ⟨p6, 0, none⟩ = some (.int .i64 fr) := (cell_same (b3.block p6 l6)).trans d6
        have e7 : w2.cell? ⟨p7, 0, none⟩ = some (.int .i64 ut) := (cell_same (b3.block p7 l7)).trans d7
        have g6 : w2.frozen? ⟨p6, 0, none⟩ = false := (frozen_same (b3.block p6 l6)).trans f6
        have g7 : w2.frozen? ⟨p7, 0, none⟩ = false := (frozen_same (b3.block p7 l7)).trans f7
        have t0 : w2.cell? ⟨wr.heap.size, 0, none⟩ = some (.int .i64 s.f) := by rw [← hw2]; simp
        have t1 : w2.cell? ⟨wr.heap.size, 1, none⟩ = some (.int .i64 s.t) := by rw [← hw2]; simp
        have b4 : Hid (Below W1.heap.size W1 w2) := b2.out.trans (b3.mono b2.out.size)
        go_wp2_with fail
        try rw [hw2]
        go_region
        all_goals go_wp2_with fail
        all_goals go_roundw
        all_goals first
          | (case measure => simp only [intOf]; omega)
          | (case rel =>
              refine ⟨i + 1, min fr s.f, max ut s.t, rfl, hlt, ?_, ?_, ?_, ?_, ?_, ?_⟩
              · exact (World.cell?_setCell_other _ _ _ _ (by intro e; cases e; exact hpn rfl)).trans (World.cell?_setCell_same _ _ _ e6)
              · exact World.cell?_setCell_same _ _ _ ((World.cell?_setCell_other _ _ _ _ (by intro e; cases e; exact hpn rfl)).trans e7)
              · simp only [World.frozen?_setCell, World.frozen?_drew]; exact g6
              · simp only [World.frozen?_setCell, World.frozen?_drew]; exact g7
              · exact ((b4.out.drew.setCell (p := ⟨p6, 0, none⟩) hp6 _).setCell (p := ⟨p7, 0, none⟩) hp7 _)
              · refine (⟨?_, ?_, ?_⟩ : min fr s.f ≤ m0.f ∧ m0.t ≤ max ut s.t ∧ ∀ s' ∈ more.take (i + 1), min fr s.f ≤ s'.f ∧ s'.t ≤ max ut s.t)
                · have := Hm.out.1; omega
                · have := Hm.out.2.1; omega
                · intro s' hs'
                  rw [hT.out] at hs'
                  rcases List.mem_append.1 hs' with k | k
                  · have := Hm.out.2.2 s' k; omega
                  · rw [List.mem_singleton] at k; subst k; omega)
      · obtain rfl : i = more.length := by omega
        rw [List.take_length] at Hm
        have HI : Hid (∀ s ∈ more, fr ≤ s.f ∧ s.t ≤ ut) := Hm.out.2.2
        have R1 := (HR.out.go slL_len b1).go slL_len b2.out
        have ly : w.heap.size < wr.heap.size := Nat.lt_of_lt_of_le (by have := s1.out; omega) b2.out.size
        have l7 : p7 < wr.heap.size := World.block_lt_of_cell? _ _ d7
        have y0 : wr.cell? ⟨w.heap.size, 0, none⟩ = some (.slice a l.length cap) := (cell_same (b2.out.block _ (by have := s1.out; omega))).trans x0
        have cA := find_to F 61 w.heap.size p6 _ l (fun s => decide (fr ≤ s.t)) wr HL.out.rise (fun s hs => (HL.out.fit s hs).2.1) (by omega) R1 fr y0 d6 (enters_of Try.func61 (by kernel_rfl) rfl) (fun u h1 h2 h3 i hi => with1_any F w.heap.size p6 _ l fr i hi u h1 h2 h3) (fun a b h1 h2 h3 h4 => by simp at h4 ⊢; have := h1.1; omega)
        have cB := fun u (bu : Below wr.heap.size wr u) => find_to F 62 w.heap.size p7 _ l (fun s => decide (ut < s.f)) u HL.out.rise (fun s hs => (HL.out.fit s hs).2.1) (by omega) (R1.go slL_len bu) ut ((cell_same (bu.block _ ly)).trans y0) ((cell_same (bu.block _ l7)).trans d7) (enters_of Try.func62 (by kernel_rfl) rfl) (fun u h1 h2 h3 i hi => with2_any F w.heap.size p7 _ l ut i hi u h1 h2 h3) (fun a b h1 h2 h3 h4 => by simp at h4 ⊢; have := h1.1; omega)
        have L1 : Hid (RowAt slL F wr (.slice a l.length cap) l) := R1
        have N1 : Hid (RowAt slL F wr (.slice (some ⟨g, o, none⟩) more.length cap2) more) := (HM.out.go slL_len b1).go slL_len b2.out
        have B0 : Hid (Below w.heap.size w wr) := b1.trans (b2.out.mono b1.size)
        clear R1 b2 x0 HC
        go_wp2_with (first
          | (have X9 := b3; go_at_call 52; refine (cB _ b3).mono ?_; rintro e w4 ⟨k2, rfl, hk2, B1, B2, b4⟩; have bw4 : Hid (Below wr.heap.size wr w4) := bcat b3 b4; have y4 : w4.cell? ⟨w.heap.size, 0, none⟩ = some (.slice a l.length cap) := (cell_same (bw4.out.block _ ly)).trans y0; have hkk : k1 ≤ k2 := between HL.out hk1 hk2 A1 B2 Hm.out hm00; have HA1 : Hid (∀ a ∈ l.take k1, decide (fr ≤ a.t) = false) := A1; have HB2 : Hid (∀ b ∈ l.drop k2, decide (ut < b.f) = true) := B2; clear A1 A2 B1 B2 b3 b4 y3; have L4 := L1.out.go slL_len bw4.out; obtain ⟨v53, hs53, R53⟩ := run_sub L4 k1 k2 hkk hk2; obtain ⟨va53, n53, vc53, rfl⟩ := R53.shape; clear L4)
          | (go_at_call 52; refine cA.mono ?_; rintro e w3 ⟨k1, rfl, hk1, A1, A2, b3⟩; have y3 : w3.cell? ⟨w.heap.size, 0, none⟩ = some (.slice a l.length cap) := (cell_same (b3.block _ ly)).trans y0)
          | (refine wpList_sub rfl _ _ _ _ rfl (hs53 _) ?_)
          | (go_at_call 64; refine (concat2 F w4.heap.size (.slice va53 n53 vc53) _ ((l.take k2).drop k1) more _ (by simp) (by simp) (R53.go slL_len ((Below.refl _ _).alloc (Nat.le_refl _) _)) ((N1.out.go slL_len bw4.out).go slL_len ((Below.refl _ _).alloc (Nat.le_refl _) _)) (by rw [List.length_drop, List.length_take]; omega)).mono ?_; rintro e w5 ⟨v5, rfl, o5, b5⟩))
        have bA : Below w4.heap.size w4 (w4.alloc (.cells #[.slice va53 n53 vc53, .slice (some ⟨g, o, none⟩) more.length cap2] 37)) := (Below.refl _ _).alloc (Nat.le_refl _) _
        generalize w4.alloc (.cells #[.slice va53 n53 vc53, .slice (some ⟨g, o, none⟩) more.length cap2] 37) = w4a at *
        have fitsA : Fits ((l.take k2).drop k1 ++ more) := fun s hs => by
          rcases List.mem_append.1 hs with k | k
          · exact (HL.out.fit s (List.mem_of_mem_take (List.mem_of_mem_drop k))).2.1
          · exact (HF.out s k).2.1
        refine (together_any w4a.heap.size v5 _ w5 o5 fitsA (by rw [List.length_append, List.length_drop, List.length_take]; omega) b5.size).mono ?_
        rintro e w6 ⟨rv, ok, rfl, b6, d, hp, hs, T⟩
        have WA := with_all HL.out HF.out hkk (fun s hs => (HI.out s hs).1) (fun s hs => (HI.out s hs).2) (fun x hx => by have := of_decide_eq_false (HA1.out x hx); omega) (fun x hx => of_decide_eq_true (HB2.out x hx)) hp hs
        have B6 : Below w4.heap.size w4 w6 := bA.trans ((b5.trans (b6.mono (by omega))).mono bA.size)
        have B7 : Hid (Below w.heap.size w w6) := B0.out.trans ((bcat bw4.out B6).mono B0.out.size)
        have y6 : w6.cell? ⟨w.heap.size, 0, none⟩ = some (.slice a l.length cap) := (cell_same (B6.block _ (by have := bw4.out.size; omega))).trans y4
        have L6 : RowAt slL F w6 (.slice a l.length cap) l := (L1.out.go slL_len bw4.out).go slL_len B6
        clear R53 hs53 o5 b5 b6 hp hs fitsA bA y4 y0 cA cB d6 d7 f6 f7
        unfold Tog at T
        cases htog : tog d with
        | none =>
          rw [htog] at T
          obtain ⟨rfl, rfl⟩ := T
          have HT : Hid _ := WA.1 htog
          clear WA htog
          go_wp2
          refine bodyPost_ret (results_tmp2 Try.results45 _ _ _) rfl ?_
          exact ⟨_, _, rfl, B7.out, ⟨_, _, _, rfl⟩, Or.inl ⟨rfl, HT.out⟩⟩
        | some out =>
          rw [htog] at T
          obtain ⟨rfl, oO⟩ := T
          have HT : Hid (With l more (l.take k1 ++ out ++ l.drop k2)) := WA.2 out htog
          have hlen : Hid (k1 + out.length + (l.length - k2) ≤ 1000000000) := by
            have := HT.out.len
            rw [List.length_append, List.length_append, List.length_take, List.length_drop] at this
            unfold Hid
            omega
          clear WA htog
          have RO : RowAt slL (fun k => True) w6 rv out := (row_of_own slL_len oO).mono fun _ _ => trivial
          obtain ⟨va, vc, er, _⟩ := RO.form
          obtain ⟨v64, hs64, R64⟩ := run_sub_to L6 k1 hk1
          obtain ⟨v68, hs68, R68⟩ := run_sub_from L6 k2 hk2
          obtain ⟨va64, n64, vc64, rfl⟩ := R64.shape
          obtain ⟨va68, n68, vc68, rfl⟩ := R68.shape
          obtain ⟨nr, hnr⟩ : ∃ nr, out.length = nr := ⟨_, rfl⟩
          have b7 : Below w6.heap.size w6 (w6.drew.alloc (.cells #[(.slice va64 n64 vc64), rv, (.slice va68 n68 vc68)] 37)) := Below.alloc (a := w6) (w := w6.drew) ⟨rfl, rfl, rfl, Nat.le_refl _, fun _ _ => rfl⟩ (Nat.le_refl _) _
          have c8 := concat3 (fun _ => True) w6.heap.size (.slice va64 n64 vc64) rv (.slice va68 n68 vc68) (l.take k1) out (l.drop k2) (w6.drew.alloc (.cells #[(.slice va64 n64 vc64), rv, (.slice va68 n68 vc68)] 37)) (cell_new3 w6 _ _ _ _).1 (cell_new3 w6 _ _ _ _).2.1 (cell_new3 w6 _ _ _ _).2.2 ((R64.mono fun _ _ => trivial).go slL_len b7) (RO.go slL_len b7) ((R68.mono fun _ _ => trivial).go slL_len b7) (by have := hlen.out; rw [List.length_take, List.length_drop]; omega)
          have lw6 : w.heap.size < w6.heap.size := World.block_lt_of_cell? _ _ y6
          have k2f : ∀ u, Below w6.heap.size w6 u → u.cell? ⟨w.heap.size, 0, none⟩ = some (.slice a l.length cap) := fun u hu => (cell_same (hu.block _ lw6)).trans y6
          clear R64 R68 RO L6 oO
          rw [hnr] at er
          subst er
          go_wp2_with fail
          obtain ⟨IH, hIH⟩ : ∃ I : World → Prop, I = Below w6.heap.size w6 := ⟨_, rfl⟩
          have hS : IH w6.drew := by rw [hIH]; exact (Below.refl _ _).drew
          rw [← hIH] at k2f
          refine start_held (S := IH) 11 rfl (by kernel_rfl) (hS) ?_
          simp only [Array.replicate_succ, Array.replicate_zero, List.push_toArray, List.nil_append, List.cons_append]
          refine take_held 0 (by assumption) rfl (by kernel_rfl) (by kernel_rfl) (by kernel_rfl) (fun _ _ _ h => h) (by kernel_rfl) (v := ?v0) ?y0 ?r0
          case y0 => (intro u hu; have zz0 := k2f u hu; go_simp; try rfl)
          simp only [Act.put, List.setIfInBounds_toArray, List.set_cons_zero, List.set_cons_succ]
          refine take_held 1 (by assumption) rfl (by kernel_rfl) (by kernel_rfl) (by kernel_rfl) (fun _ _ _ h => h) (by kernel_rfl) (v := ?v1) ?y1 ?r1
          case y1 => (intro u hu; go_simp; try rfl)
          simp only [Act.put, List.setIfInBounds_toArray, List.set_cons_zero, List.set_cons_succ]
          refine take_held 2 (by assumption) rfl (by kernel_rfl) (by kernel_rfl) (by kernel_rfl) (fun _ _ _ h => h) (by kernel_rfl) (v := .slice va64 n64 vc64) ?y2 ?r2
          case y2 => (intro u hu; exact run_sub_op 37 _ _ _ rfl (hs64 u))
          simp only [Act.put, List.setIfInBounds_toArray, List.set_cons_zero, List.set_cons_succ]
          refine take_held 3 (by assumption) rfl (by kernel_rfl) (by kernel_rfl) (by kernel_rfl) (fun _ _ _ h => h) (by kernel_rfl) (v := ?v3) ?y3 ?r3
          case y3 => (intro u hu; go_simp; try rfl)
          simp only [Act.put, List.setIfInBounds_toArray, List.set_cons_zero, List.set_cons_succ]
          refine take_held 4 (by assumption) rfl (by kernel_rfl) (by kernel_rfl) (by kernel_rfl) (fun _ _ _ h => h) (by kernel_rfl) (v := ?v4) ?y4 ?r4
          case y4 => (intro u hu; have zz0 := k2f u hu; go_simp; try rfl)
          simp only [Act.put, List.setIfInBounds_toArray, List.set_cons_zero, List.set_cons_succ]
          refine take_held 5 (by assumption) rfl (by kernel_rfl) (by kernel_rfl) (by kernel_rfl) (fun _ _ _ h => h) (by kernel_rfl) (v := ?v5) ?y5 ?r5
          case y5 => (intro u hu; go_simp; try rfl)
          simp only [Act.put, List.setIfInBounds_toArray, List.set_cons_zero, List.set_cons_succ]
          refine take_held 6 (by assumption) rfl (by kernel_rfl) (by kernel_rfl) (by kernel_rfl) (fun _ _ _ h => h) (by kernel_rfl) (v := .slice va68 n68 vc68) ?y6 ?r6
          case y6 => (intro u hu; exact run_sub_op 37 _ _ _ rfl (hs68 u))
          simp only [Act.put, List.setIfInBounds_toArray, List.set_cons_zero, List.set_cons_succ]
          refine wpAnyH_ready (rs := [7]) (by kernel_rfl) (by simp) (AllReadyH.cons ((nth_eq _ 7).trans rfl) ?_ AllReadyH.nil)
          intro K' hK
          have hS7 : IH (w6.drew.alloc (.cells #[.slice va64 n64 vc64, .slice va nr vc, .slice va68 n68 vc68] 37)) := by rw [hIH]; exact b7
          refine value_in hK (by kernel_rfl) (.slice (some ⟨w6.heap.size, 0, none⟩) 3 3) (w6.drew.alloc (.cells #[.slice va64 n64 vc64, .slice va nr vc, .slice va68 n68 vc68] 37)) (by go_simp; try rfl) (hS7) ?_
          simp only [Act.put, List.setIfInBounds_toArray, List.set_cons_zero, List.set_cons_succ]
          refine wpAnyH_ready (rs := [8]) (by kernel_rfl) (by simp) (AllReadyH.cons ((nth_eq _ 8).trans rfl) ?_ AllReadyH.nil)
          intro K' hK
          refine call_in hK (by kernel_rfl) 64 #[.slice (some ⟨w6.heap.size, 0, none⟩) 3 3] (by go_simp) _ (c8) ?_
          rintro v w8 ⟨o8, b8⟩
          have hS8 : IH w8 := by rw [hIH]; exact bcat b7 b8
          refine ⟨hS8, ?_⟩
          simp only [Act.put, List.setIfInBounds_toArray, List.set_cons_zero, List.set_cons_succ]
          refine take_held 9 (by assumption) rfl (by kernel_rfl) (by kernel_rfl) (by kernel_rfl) (fun _ _ _ h => h) (by kernel_rfl) (v := ?v7) ?y7 ?r7
          case y7 => (intro u hu; go_simp; try rfl)
          simp only [Act.put, List.setIfInBounds_toArray, List.set_cons_zero, List.set_cons_succ]
          refine take_held 10 (by assumption) rfl (by kernel_rfl) (by kernel_rfl) (by kernel_rfl) (fun _ _ _ h => h) (by kernel_rfl) (v := ?v8) ?y8 ?r8
          case y8 => (intro u hu; go_simp; try rfl)
          simp only [Act.put, List.setIfInBounds_toArray, List.set_cons_zero, List.set_cons_succ]
          refine done_held (by kernel_rfl) ?_ _
          go_wp2
          refine bodyPost_ret (results_tmp2 Try.results45 _ _ _) rfl ?_
          have B9 := bcat b7 b8
          obtain ⟨ya, yc, ye, _⟩ := own_form o8
          exact ⟨_, _, rfl, bcat B7.out B9, ⟨_, _, _, ye⟩, Or.inr ⟨rfl, _, HT.out, (row_of_own slL_len o8).mono fun k hk => Or.inr (by have := B7.out.size; have := b7.size; omega)⟩⟩
theorem with_any (F : Nat → Prop) (lv : Value) (l : List Sl) (mv : Value) (more : List Sl) (w : World) (hl : Ok l) (hm : ∀ s ∈ more, Fit s) (hb : l.length + more.length ≤ 1000000000) (R : RowAt slL F w lv l) (M : RowAt slL F w mv more) :
    Calls Try.prog 45 #[lv, mv] w (WithPost F l more w) := by
  rcases Nat.eq_zero_or_pos more.length with h | h
  · obtain rfl : more = [] := List.eq_nil_of_length_eq_zero h
    exact with_none F lv l mv w hl R M
  · exact with_some F lv l mv more w hl hm h hb R M
end Go.Proofs.Ytddkgkafgjdheaa.Rs
