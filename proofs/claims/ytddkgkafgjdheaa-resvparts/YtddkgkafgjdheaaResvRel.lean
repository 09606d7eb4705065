/-
  Release, Expire, Clear; Extend.
-/
import Derived.Test.YtddkgkafgjdheaaResvCut
import Derived.Test.YtddkgkafgjdheaaResvTick
namespace Go.Proofs.Ytddkgkafgjdheaa.Rs
set_option linter.unusedVariables false
set_option linter.unusedSimpArgs false
open Go Go.RowKit Go.Shelf Go.Proofs Hp
attribute [local go_sem] Oper.semAt_some

def isR (R : Int) (r : Int) : Bool := r == R
theorem exp1_any (r : Int) (w : World) : Calls Try.prog 50 (#[.int .i64 r] ++ #[]) w fun e w' => e = .returned (.bool true) ∧ w' = w := by
  go_enter Try.func50, Try.ntmps50
  go_wp2
  go_ret
  exact ⟨rfl, rfl⟩
theorem rel1_any (r R : Int) (bx : Nat) (w : World) (hx : w.cell? ⟨bx, 0, none⟩ = some (.int .i64 R)) : Calls Try.prog 51 (#[.int .i64 r] ++ #[.pointer (some ⟨bx, 0, none⟩)]) w fun e w' => e = .returned (.bool (isR R r)) ∧ w' = w := by
  have hr : isR R r = (r == R) := rfl
  generalize isR R r = q at *
  go_enter Try.func51, Try.ntmps51
  go_wp2
  go_ret
  exact ⟨ret_bool hr.symm, rfl⟩
theorem expire_any (F : Nat → Prop) (b : Nat) (ls : List (List Sl)) (upto : Int) (m : Nat) (w : World) (h : TAt F w b ls) (hs : Small m ls) (hm : m ≤ 1000000000) (hn : 0 < ls.length) (hn2 : ls.length ≤ 1000000) :
    Calls Try.prog 25 #[.pointer (some ⟨b, 0, none⟩), .int .i64 upto] w fun e w' => e = .returned (.tuple #[]) ∧ ∃ F', TAt F' w' b (ls.map (cutL (fun _ => true) upto)) ∧ Tn F F' w w' := by
  have cC := cut_any F b ls upto 50 #[] (fun _ => true) m w h hs hm hn hn2 (enters_of Try.func50 (by kernel_rfl) rfl) (fun u F' t r => exp1_any r u)
  generalize ls.map (cutL (fun _ => true) upto) = l2 at *
  clear h hs
  go_enter Try.func25, Try.ntmps25
  go_wp2_with (go_at_call 49; refine cC.mono ?_; rintro e w1 ⟨rfl, F', T1, t1⟩)
  go_end0
  exact ⟨rfl, F', T1, t1⟩
theorem release_any (F : Nat → Prop) (b : Nat) (ls : List (List Sl)) (R upto : Int) (m : Nat) (w : World) (h : TAt F w b ls) (hs : Small m ls) (hm : m ≤ 1000000000) (hn : 0 < ls.length) (hn2 : ls.length ≤ 1000000) :
    Calls Try.prog 26 #[.pointer (some ⟨b, 0, none⟩), .int .i64 R, .int .i64 upto] w fun e w' => e = .returned (.tuple #[]) ∧ ∃ F', TAt F' w' b (ls.map (cutL (isR R) upto)) ∧ Tn F F' w w' := by
  obtain ⟨W1, hW1⟩ : ∃ W1, w.alloc (.cells #[.int .i64 R] 3) = W1 := ⟨_, rfl⟩
  have b1 : Below w.heap.size w W1 := by rw [← hW1]; exact (Below.refl _ _).alloc (Nat.le_refl _) _
  have x0 : W1.cell? ⟨w.heap.size, 0, none⟩ = some (.int .i64 R) := by rw [← hW1]; simp
  have lx : w.heap.size < W1.heap.size := World.block_lt_of_cell? _ _ x0
  have nx : ¬ F w.heap.size := fun q => by have := h.low _ q; omega
  have cC := cut_any F b ls upto 51 #[.pointer (some ⟨w.heap.size, 0, none⟩)] (isR R) m W1 (h.go b1) hs hm hn hn2 (enters_of Try.func51 (by kernel_rfl) rfl) (fun u F' t r => rel1_any r R w.heap.size u ((cell_same (t.block _ lx nx)).trans x0))
  generalize ls.map (cutL (isR R) upto) = l2 at *
  have B1 : Hid (Below w.heap.size w W1) := b1
  clear h hs b1 x0
  go_enter Try.func26, Try.ntmps26
  go_wp2_with (go_at_call 49; (try rw [hW1]); refine cC.mono ?_; rintro e w1 ⟨rfl, F', T1, t1⟩)
  go_end0
  exact ⟨rfl, F', T1, (Tn.below B1.out).trans t1⟩
theorem clear_any (F : Nat → Prop) (b : Nat) (ls : List (List Sl)) (R : Int) (m : Nat) (w : World) (h : TAt F w b ls) (hs : Small m ls) (hm : m ≤ 1000000000) (hn : 0 < ls.length) (hn2 : ls.length ≤ 1000000) :
    Calls Try.prog 27 #[.pointer (some ⟨b, 0, none⟩), .int .i64 R] w fun e w' => e = .returned (.tuple #[]) ∧ ∃ F', TAt F' w' b (ls.map (cutL (isR R) FV)) ∧ Tn F F' w w' := by
  have cC := release_any F b ls R FV m w h hs hm hn hn2
  generalize ls.map (cutL (isR R) FV) = l2 at *
  unfold FV at cC
  clear h hs
  go_enter Try.func27, Try.ntmps27
  go_wp2_with (go_at_call 26; refine cC.mono ?_; rintro e w1 ⟨rfl, F', T1, t1⟩)
  go_end0
  exact ⟨rfl, F', T1, t1⟩
/- What Extend does. -/
def Mine (l : List Sl) (R ti : Int) (s : Sl) : Prop := s ∈ l ∧ s.r = R ∧ s.f ≤ ti ∧ ti < s.t
structure ExtR (R c ti by_ : Int) (ls : List (List Sl)) (e : Int) (ls' : List (List Sl)) : Prop where
  none : (¬ ∃ s, Mine (rowOf ls c) R ti s) → e = 3 ∧ ls' = ls
  taken : ∀ s, Mine (rowOf ls c) R ti s → Met (rowOf ls c) R [⟨s.f, Plain.sum s.t by_, R⟩] → e = 18 ∧ ls' = ls
  done : ∀ s, Mine (rowOf ls c) R ti s → ¬ Met (rowOf ls c) R [⟨s.f, Plain.sum s.t by_, R⟩] → e = 0 ∧ ∃ l', With (rowOf ls c) [⟨s.f, Plain.sum s.t by_, R⟩] l' ∧ ls' = ls.set c.toNat l'
theorem Mine.one {l : List Sl} (h : Ok l) {R ti : Int} {s s' : Sl} (a : Mine l R ti s) (b : Mine l R ti s') : s = s' := by
  obtain ⟨i, hi, rfl⟩ := List.mem_iff_getElem.1 a.1
  obtain ⟨j, hj, rfl⟩ := List.mem_iff_getElem.1 b.1
  rcases Nat.lt_trichotomy i j with q | q | q
  · have := (List.pairwise_iff_getElem.1 h.rise i j hi hj q).1
    have := a.2.2; have := b.2.2; omega
  · subst q; rfl
  · have := (List.pairwise_iff_getElem.1 h.rise j i hj hi q).1
    have := a.2.2; have := b.2.2; omega
theorem OkT.row {ls : List (List Sl)} (h : OkT ls) (c : Int) : Ok (rowOf ls c) := by
  cases ht : isThere ls.length c with
  | true => obtain ⟨i, hi, _, e⟩ := rowOf_in ht; rw [e]; exact h _ (List.getElem_mem hi)
  | false => rw [rowOf_out ht]; exact Ok.nil
theorem Small.row {ls : List (List Sl)} {m : Nat} (h : Small m ls) (c : Int) : (rowOf ls c).length ≤ m := by
  cases ht : isThere ls.length c with
  | true => obtain ⟨i, hi, _, e⟩ := rowOf_in ht; rw [e]; exact h _ (List.getElem_mem hi)
  | false => rw [rowOf_out ht]; exact Nat.zero_le _
theorem Mine.there {ls : List (List Sl)} {c R ti : Int} {s : Sl} (h : Mine (rowOf ls c) R ti s) : isThere ls.length c = true := by
  cases ht : isThere ls.length c with
  | true => rfl
  | false => rw [rowOf_out ht] at h; cases h.1
theorem ExtR.cases {R c ti by_ : Int} {ls ls' : List (List Sl)} {e : Int} (h : ExtR R c ti by_ ls e ls') : ls' = ls ∨ ∃ s l', Mine (rowOf ls c) R ti s ∧ With (rowOf ls c) [⟨s.f, Plain.sum s.t by_, R⟩] l' ∧ ls' = ls.set c.toNat l' := by
  by_cases k : ∃ s, Mine (rowOf ls c) R ti s
  · obtain ⟨s, hs⟩ := k
    by_cases hm : Met (rowOf ls c) R [⟨s.f, Plain.sum s.t by_, R⟩]
    · exact Or.inl (h.taken s hs hm).2
    · obtain ⟨_, l', hw, hl⟩ := h.done s hs hm
      exact Or.inr ⟨s, l', hs, hw, hl⟩
  · exact Or.inl (h.none k).2
theorem ExtR.ok {R c ti by_ : Int} {ls ls' : List (List Sl)} {e : Int} (h : ExtR R c ti by_ ls e ls') (hl : OkT ls) : OkT ls' := by
  rcases h.cases with rfl | ⟨s, l', _, hw, rfl⟩
  · exact hl
  · intro l hm
    rcases List.mem_or_eq_of_mem_set hm with q | rfl
    · exact hl l q
    · exact hw.ok
theorem ExtR.small {R c ti by_ : Int} {ls ls' : List (List Sl)} {e : Int} {m : Nat} (h : ExtR R c ti by_ ls e ls') (hs : Small m ls) : Small (m + 1) ls' := by
  rcases h.cases with rfl | ⟨s, l', _, hw, rfl⟩
  · exact fun l hl => by have := hs l hl; omega
  · intro l hm
    rcases List.mem_or_eq_of_mem_set hm with q | rfl
    · have := hs l q; omega
    · have h1 := hw.len; have h2 := hs.row c; rw [List.length_singleton] at h1; omega
theorem ExtR.len {R c ti by_ : Int} {ls ls' : List (List Sl)} {e : Int} (h : ExtR R c ti by_ ls e ls') : ls'.length = ls.length := by
  rcases h.cases with rfl | ⟨s, l', _, hw, rfl⟩
  · rfl
  · rw [List.length_set]
theorem ExtR.unique {R c ti by_ : Int} {ls l1 l2 : List (List Sl)} {e1 e2 : Int} (h : ExtR R c ti by_ ls e1 l1) (k : ExtR R c ti by_ ls e2 l2) : e1 = e2 ∧ l1 = l2 := by
  by_cases q : ∃ s, Mine (rowOf ls c) R ti s
  · obtain ⟨s, hs⟩ := q
    by_cases hm : Met (rowOf ls c) R [⟨s.f, Plain.sum s.t by_, R⟩]
    · obtain ⟨a, b⟩ := h.taken s hs hm; obtain ⟨c, d⟩ := k.taken s hs hm; exact ⟨by omega, by rw [b, d]⟩
    · obtain ⟨a, l', hw, b⟩ := h.done s hs hm
      obtain ⟨c, l'', hw', d⟩ := k.done s hs hm
      exact ⟨by omega, by rw [b, d, hw.unique hw']⟩
  · obtain ⟨a, b⟩ := h.none q; obtain ⟨c, d⟩ := k.none q; exact ⟨by omega, by rw [b, d]⟩
def ExtPost (F : Nat → Prop) (b : Nat) (R c ti by_ : Int) (ls : List (List Sl)) (w : World) (e : Ending) (w' : World) : Prop := ∃ (x : Int) (ls' : List (List Sl)) (F' : Nat → Prop), e = .returned (.int .i64 x) ∧ TAt F' w' b ls' ∧ Tn F F' w w' ∧ ExtR R c ti by_ ls x ls'
set_option maxRecDepth 100000 in
set_option maxHeartbeats 4000000 in
theorem extend_any (F : Nat → Prop) (b : Nat) (ls : List (List Sl)) (R c ti by_ : Int) (m : Nat) (w : World) (h : TAt F w b ls) (hl : OkT ls) (hs : Small m ls) (hm : m ≤ 999999999) :
    Calls Try.prog 28 #[.pointer (some ⟨b, 0, none⟩), .int .i64 R, .int .i64 c, .int .i64 ti, .int .i64 by_] w (ExtPost F b R c ti by_ ls w) := by
  obtain ⟨v, vals, TI⟩ := h
  have HT : Hid (TAt F w b ls) := ⟨v, vals, TI⟩
  have HTI : Hid (TIn F w b v vals ls) := TI
  obtain ⟨W1, hW1⟩ : ∃ W1, w.alloc (.cells #[.int .i64 ti] 3) = W1 := ⟨_, rfl⟩
  have b1 : Below w.heap.size w W1 := by rw [← hW1]; exact (Below.refl _ _).alloc (Nat.le_refl _) _
  have x0 : W1.cell? ⟨w.heap.size, 0, none⟩ = some (.int .i64 ti) := by rw [← hW1]; simp
  have s1 : Hid (W1.heap.size = w.heap.size + 1) := by unfold Hid; rw [← hW1]; simp
  have cO := of_any F b v vals ls c W1 (TI.go b1)
  have hl0 := hl.row c
  have hs0 := hs.row c
  obtain ⟨l, hlr⟩ : ∃ l, rowOf ls c = l := ⟨_, rfl⟩
  have HLR : Hid (rowOf ls c = l) := hlr
  rw [hlr] at cO hl0 hs0
  have hbl := HT.out.at.2
  clear hlr TI
  go_enter Try.func28, Try.ntmps28
  go_wp2_with (go_at_call 41; (try rw [hW1]); refine cO.mono ?_; rintro e w2 ⟨lv, rfl, rfl, RL⟩; obtain ⟨la, ln, lc, rfl⟩ := RL.shape)
  obtain ⟨X, hX⟩ : ∃ X, w2.alloc (.cells #[.slice la ln lc] 37) = X := ⟨_, rfl⟩
  rw [hX]
  have bX : Below w2.heap.size w2 X := by rw [← hX]; exact (Below.refl _ _).alloc (Nat.le_refl _) _
  have y0 : X.cell? ⟨w2.heap.size, 0, none⟩ = some (.slice la ln lc) := by rw [← hX]; simp
  have lx : w.heap.size < w2.heap.size := by have := s1.out; omega
  have y1 : X.cell? ⟨w.heap.size, 0, none⟩ = some (.int .i64 ti) := (cell_same (bX.block _ lx)).trans x0
  have RX := RL.go slL_len bX
  have eln : ln = l.length := by obtain ⟨u1, u2, u3, _⟩ := RL.form; injection u3
  have cA := find_to _ 53 w2.heap.size w.heap.size _ l (fun s => decide (ti < s.t)) X hl0.rise (fun s hs => (hl0.fit s hs).2.1) (by omega) RX ti y0 y1 (enters_of Try.func53 (by kernel_rfl) rfl) (fun u h1 h2 h3 i hi => ext1_any _ w2.heap.size w.heap.size _ l ti i hi u h1 h2 h3) (fun a b h1 h2 h3 h4 => by simp at h4 ⊢; have := h1.1; omega)
  rw [← eln] at cA
  refine cA.mono ?_
  rintro e w3 ⟨k, rfl, hk, A1, A2, b3⟩
  have HRL : Hid (RowAt slL (fun k => F k ∧ k ≠ b ∧ v.ownBlock ≠ some k) w3 (.slice la ln lc) l) := RX.go slL_len b3
  have B3 : Hid (Below w.heap.size w w3) := bcat b1 (bcat bX b3)
  have z0 : w3.cell? ⟨w2.heap.size, 0, none⟩ = some (.slice la ln lc) := (cell_same (b3.block _ (World.block_lt_of_cell? _ _ y0))).trans y0
  have z1 : w3.cell? ⟨w.heap.size, 0, none⟩ = some (.int .i64 ti) := (cell_same (b3.block _ (World.block_lt_of_cell? _ _ y1))).trans y1
  have HNone : Hid ((∀ s, Mine l R ti s → False) → ∀ w', Below w.heap.size w w' → ExtPost F b R c ti by_ ls w (.returned (.int .i64 3)) w') := fun hno w' hb => ⟨3, ls, F, rfl, HT.out.go hb, Tn.below hb, fun _ => ⟨rfl, rfl⟩, fun s hs' => by rw [HLR.out] at hs'; exact (hno s hs').elim, fun s hs' => by rw [HLR.out] at hs'; exact (hno s hs').elim⟩
  have HA1 : Hid (∀ s, s ∈ l.take k → ¬ ti < s.t) := fun s hs' => of_decide_eq_false (A1 s hs')
  have HA2 : Hid (∀ s, s ∈ l.drop k → ti < s.t) := fun s hs' => of_decide_eq_true (A2 s hs')
  have HFirst : Hid (∀ s, Mine l R ti s → ∃ hk : k < l.length, s = l[k]) := fun s hs' => by
    obtain ⟨j, hj, rfl⟩ := List.mem_iff_getElem.1 hs'.1
    have hjk : k ≤ j := by
      rcases Nat.lt_or_ge j k with q | q
      · exact absurd hs'.2.2.2 (HA1.out _ (List.mem_iff_getElem.2 ⟨j, by rw [List.length_take]; omega, by rw [List.getElem_take]⟩))
      · exact q
    refine ⟨by omega, ?_⟩
    rcases Nat.lt_or_ge k j with q | q
    · have h1 := (List.pairwise_iff_getElem.1 hl0.rise k j (by omega) hj q).1
      have h2 := HA2.out l[k] (List.mem_iff_getElem.2 ⟨0, by rw [List.length_drop]; omega, by rw [List.getElem_drop]; rfl⟩)
      have := hs'.2.2.1
      omega
    · obtain rfl : k = j := by omega
      rfl
  clear A1 A2 cA cO RX RL y0 y1 x0 hX bX b1 hW1 b3
  rcases Nat.lt_or_ge k l.length with hkl | hkg
  · have hkn : ((k : Int) == (ln : Int)) = false := by rw [beq_eq_false_iff_ne]; omega
    have hkn' : (k : Int) < (ln : Int) := by omega
    obtain ⟨g, o, cap, eb, c0, c1, c2⟩ := box_item HRL.out k hkl
    cases eb
    obtain ⟨sk, hsk⟩ : ∃ sk, l[k] = sk := ⟨_, rfl⟩
    have HSK : Hid (l[k] = sk) := hsk
    rw [hsk] at c0 c1 c2
    clear hsk
    by_cases k1 : sk.f > ti
    · have d1 : decide (sk.f > ti) = true := decide_eq_true k1
      have N := HNone.out (fun s hs' => by obtain ⟨q, rfl⟩ := HFirst.out s hs'; rw [HSK.out] at hs'; have := hs'.2.2.1; omega)
      have HN : Hid (∀ w', Below w.heap.size w w' → ExtPost F b R c ti by_ ls w (.returned (.int .i64 3)) w') := N
      clear N
      go_wp2_with fail
      go_quiet (fail)
      go_wp2
      go_ret
      exact HN.out _ (below_drewN B3.out nq)
    · have d1 : decide (sk.f > ti) = false := decide_eq_false k1
      by_cases k2 : sk.r = R
      · have d2 : (sk.r != R) = false := by simp [k2]
        have hMine : Mine l R ti sk := ⟨by rw [← HSK.out]; exact List.getElem_mem _, k2, by omega, by rw [← HSK.out]; exact HA2.out l[k] (List.mem_iff_getElem.2 ⟨0, by rw [List.length_drop]; omega, by rw [List.getElem_drop]; rfl⟩)⟩
        have hMine' : Mine (rowOf ls c) R ti sk := by rw [HLR.out]; exact hMine
        have hth := hMine'.there
        obtain ⟨ci, hci, ec, erow⟩ := rowOf_in hth
        have hfs := hl0.fit sk hMine.1
        have hfit : Fit ⟨sk.f, Plain.sum sk.t by_, R⟩ := by
          have h1 := Plain.sum_bd sk.t by_
          have h2 := Plain.cut_bd by_
          have h3 : Plain.cut sk.t = sk.t := Plain.cut_in (by have := hfs.1; have := hfs.2.1; omega) hfs.2.2.1
          have h4 := Plain.sum_min sk.t by_
          rw [h3] at h4
          have h5 := hfs.2.2.1
          unfold FV at h5
          refine ⟨hfs.1, ?_, by unfold FV; exact h1.2, by rw [← k2]; exact hfs.2.2.2⟩
          have := hfs.2.1
          simp only
          omega
        have HFit : Hid (Fit ⟨sk.f, Plain.sum sk.t by_, R⟩) := hfit
        have HMine : Hid (Mine (rowOf ls c) R ti sk) := hMine'
        have HEC : Hid (c = (ci : Nat)) := ec
        have HER : Hid (l = ls[ci]) := by unfold Hid; rw [← HLR.out, erow]
        have HK2 : Hid (sk.r = R) := k2
        have cS := fun u => Tick.sum_any sk.t by_ u
        obtain ⟨sm, hsm⟩ : ∃ sm, Plain.sum sk.t by_ = sm := ⟨_, rfl⟩
        have HSM : Hid (Plain.sum sk.t by_ = sm) := hsm
        rw [hsm] at HFit
        simp only [hsm] at cS
        clear k2 hMine hMine' hth ec erow hfs hfit hsm
        go_wp2_with fail
        go_quiet (fail)
        obtain ⟨w4, hw4⟩ : ∃ w4, w3.drewN nq = w4 := ⟨_, rfl⟩
        rw [hw4]
        have b4 : Below w3.heap.size w3 w4 := by rw [← hw4]; exact below_drewN (Below.refl _ _) nq
        have B4 : Hid (Below w.heap.size w w4) := bcat B3.out b4
        have lg : g < w3.heap.size := World.block_lt_of_cell? _ _ c0
        have l2 : w2.heap.size < w3.heap.size := World.block_lt_of_cell? _ _ z0
        have e0 : w4.cell? ⟨g, o + k * 3, none⟩ = some (.int .i64 sk.f) := (cell_same (b4.block g lg)).trans c0
        have e1 : w4.cell? ⟨g, o + k * 3 + 1, none⟩ = some (.int .i64 sk.t) := (cell_same (b4.block g lg)).trans c1
        have e2 : w4.cell? ⟨g, o + k * 3 + 2, none⟩ = some (.int .i64 sk.r) := (cell_same (b4.block g lg)).trans c2
        have y4 : w4.cell? ⟨w2.heap.size, 0, none⟩ = some (.slice (some ⟨g, o, none⟩) l.length lc) := (cell_same (b4.block _ l2)).trans z0
        have l24 : w2.heap.size < w4.heap.size := Nat.lt_of_lt_of_le l2 b4.size
        have RL4 : Hid (RowAt slL (fun k => F k ∧ k ≠ b ∧ v.ownBlock ≠ some k) w4 (.slice (some ⟨g, o, none⟩) l.length lc) l) := HRL.out.go slL_len b4
        obtain ⟨w5, hw5⟩ : ∃ w5, w4.alloc (.cells #[.int .i64 sk.f, .int .i64 sk.t, .int .i64 sk.r] 40) = w5 := ⟨_, rfl⟩
        have b5 : Below w4.heap.size w4 w5 := by rw [← hw5]; exact (Below.refl _ _).alloc (Nat.le_refl _) _
        have n5 := cell_new w4 (.int .i64 sk.f) (.int .i64 sk.t) (.int .i64 sk.r) 40
        rw [hw5] at n5
        have f5 : ∀ o, w5.frozen? ⟨w4.heap.size, o, none⟩ = false := fun o => by rw [← hw5]; simp
        have l45 : w4.heap.size < w5.heap.size := World.block_lt_of_cell? _ _ n5.1
        have y5 : w5.cell? ⟨w2.heap.size, 0, none⟩ = some (.slice (some ⟨g, o, none⟩) l.length lc) := (cell_same (b5.block _ l24)).trans y4
        obtain ⟨n50, n51, n52⟩ := n5
        have HW5 : Hid (w4.alloc (.cells #[.int .i64 sk.f, .int .i64 sk.t, .int .i64 sk.r] 40) = w5) := hw5
        clear c0 c1 c2 z0 z1 hw4 hw5
        go_wp2_with (go_at_call 54; (try rw [HW5.out]); refine (cS _).mono ?_; rintro e w6 ⟨rfl, kk6⟩; have b6 := kk6.below; have p0 := (cell_same (o := 0) (b6.block _ l45)).trans n50; have p1 := (cell_same (o := 1) (b6.block _ l45)).trans n51; have p2 := (cell_same (o := 2) (b6.block _ l45)).trans n52; have pf := (frozen_same (o := 1) (b6.block _ l45)).trans (f5 1); have y6 := (cell_same (o := 0) (b6.block _ (Nat.lt_of_lt_of_le l24 b5.size))).trans y5; have l246 : w2.heap.size < w6.heap.size := Nat.lt_of_lt_of_le (Nat.lt_of_lt_of_le l24 b5.size) b6.size; have l46 : w4.heap.size < w6.heap.size := Nat.lt_of_lt_of_le l45 b6.size; have hne24 : w2.heap.size ≠ w4.heap.size := (by omega))
        have hxz : (w6.setCell ⟨w4.heap.size, 1, none⟩ (.int .i64 sm)).heap.size = w6.heap.size := by simp [World.setCell]
        have b56 : Below w4.heap.size w4 w6 := bcat b5 b6
        have b7 : Below w4.heap.size w4 (w6.setCell ⟨w4.heap.size, 1, none⟩ (.int .i64 sm)) := b56.setCell (p := ⟨w4.heap.size, 1, none⟩) (Nat.le_refl _) _
        have n8 := cell_new (w6.setCell ⟨w4.heap.size, 1, none⟩ (.int .i64 sm)) (.int .i64 sk.f) (.int .i64 sm) (.int .i64 sk.r) 40
        have b8 : Below w4.heap.size w4 ((w6.setCell ⟨w4.heap.size, 1, none⟩ (.int .i64 sm)).alloc (.cells #[.int .i64 sk.f, .int .i64 sm, .int .i64 sk.r] 40)) := b7.alloc b7.size _
        rw [hxz] at n8
        generalize (w6.setCell ⟨w4.heap.size, 1, none⟩ (.int .i64 sm)).alloc (.cells #[.int .i64 sk.f, .int .i64 sm, .int .i64 sk.r] 40) = w8 at *
        have RM : RowAt slL (fun k => (F k ∧ k ≠ b ∧ v.ownBlock ≠ some k) ∨ w.heap.size ≤ k) w8 (.slice (some ⟨w6.heap.size, 0, none⟩) 1 1) [⟨sk.f, sm, R⟩] := by
          refine Or.inr ⟨w6.heap.size, 0, 1, rfl, Nat.le_refl _, by unfold maxLen; omega, fun _ => Or.inr (Nat.le_trans B4.out.size (Nat.le_of_lt l46)), fun j u hj => ?_⟩
          rw [HK2.out] at n8
          rw [Nat.zero_add]
          match j with
          | 0 => cases hj; exact n8.1
          | 1 => cases hj; exact n8.2.1
          | 2 => cases hj; exact n8.2.2
          | j + 3 => simp [rowL, slL] at hj
        have RL8 := (RL4.out.go slL_len b8).mono (G := fun k => (F k ∧ k ≠ b ∧ v.ownBlock ≠ some k) ∨ w.heap.size ≤ k) fun k hk => Or.inl hk
        refine (with_any _ _ l _ [⟨sk.f, sm, R⟩] w8 hl0 (fun s hs' => by rw [List.mem_singleton] at hs'; subst hs'; exact HFit.out) (by rw [List.length_singleton]; omega) RL8 RM).mono ?_
        rintro e w9 ⟨rv, ok, rfl, b9, ⟨ra, rn, rc, rfl⟩, hr⟩
        have B9 : Hid (Below w.heap.size w w9) := bcat B4.out (bcat b8 b9)
        have s8 : Hid (w.heap.size ≤ w8.heap.size) := Nat.le_trans B4.out.size b8.size
        clear RM RL8 n8 b7 b56 b8 p0 p1 p2 pf y6 y5 n50 n51 n52 f5 e0 e1 e2 y4
        rcases hr with ⟨rfl, hTwo⟩ | ⟨rfl, l', hW, hR⟩
        · have hMet : Met l R [⟨sk.f, sm, R⟩] := two_met hl0 (fun s hs' => by rw [List.mem_singleton] at hs'; subst hs'; rfl) hTwo
          have HMet : Hid _ := hMet
          clear hTwo hMet
          go_wp2
          go_ret
          refine ⟨18, ls, F, rfl, HT.out.go B9.out, Tn.below B9.out, fun q => absurd ⟨sk, HMine.out⟩ q, fun _ _ _ => ⟨rfl, rfl⟩, fun s hs' hn => ?_⟩
          have es := Mine.one (by rw [HLR.out]; exact hl0) HMine.out hs'
          subst es
          rw [HSM.out, HLR.out] at hn
          exact absurd HMet.out hn
        · have TI9 := HTI.out.go B9.out
          have hn0 : 0 < ls.length := by omega
          obtain ⟨gt, capt, ev, hgb, hFg, hgl, hlc2, hcm2, hfz, hcell⟩ := TI9.form hn0
          have hvg : v.ownBlock = some gt := by rw [ev]; rfl
          have hd9 := TI9.head
          rw [ev] at hd9
          have hcv : ci < vals.length := by rw [HTI.out.len]; exact hci
          have hc9 := hcell ci hcv
          have hf9 := hfz ci
          have hci' : (ci : Int) < (ls.length : Int) := by omega
          have PT := HTI.out.put B9.out gt ci hvg hci (.slice ra rn rc) l' (hR.mono fun k hk => by
            rcases hk with q | q
            · exact q
            · exact Or.inr (Nat.le_trans s8.out q))
          have HPT : Hid _ := PT
          have HW : Hid (With l [⟨sk.f, sm, R⟩] l') := hW
          obtain ⟨y1, y2, y3, ey⟩ : ∃ y1 y2 y3, vals[ci] = .slice y1 y2 y3 := (HTI.out.each ci hci hcv).shape
          rw [ey] at hc9
          have hc2 := HEC.out
          subst hc2
          clear PT hW hR hcell hfz TI9 ey
          go_wp2
          go_ret
          refine ⟨0, _, _, rfl, ⟨_, _, HPT.out.1⟩, HPT.out.2, fun q => absurd ⟨sk, HMine.out⟩ q, fun s hs' hm' => ?_, fun s hs' hn => ?_⟩
          · have es := Mine.one (by rw [HLR.out]; exact hl0) HMine.out hs'
            subst es
            rw [HSM.out, HLR.out] at hm'
            exact absurd hm' (HW.out.no_met (fun s hs' => (hl0.fit s hs').2.1) (fun s hs' => by rw [List.mem_singleton] at hs'; subst hs'; exact HFit.out.2.1) (fun s hs' => by rw [List.mem_singleton] at hs'; subst hs'; rfl))
          · have es := Mine.one (by rw [HLR.out]; exact hl0) HMine.out hs'
            subst es
            rw [HSM.out, HLR.out]
            exact ⟨rfl, l', HW.out, by rw [Int.toNat_natCast]⟩
      · have d2 : (sk.r != R) = true := by simp [k2]
        have N := HNone.out (fun s hs' => by obtain ⟨q, rfl⟩ := HFirst.out s hs'; rw [HSK.out] at hs'; exact k2 hs'.2.1)
        have HN : Hid (∀ w', Below w.heap.size w w' → ExtPost F b R c ti by_ ls w (.returned (.int .i64 3)) w') := N
        clear N k2
        go_wp2_with fail
        go_quiet (fail)
        go_wp2
        go_ret
        exact HN.out _ (below_drewN B3.out nq)
  · obtain rfl : k = ln := by omega
    have N := HNone.out (fun s hs' => by obtain ⟨q, _⟩ := HFirst.out s hs'; omega)
    have HN : Hid (∀ w', Below w.heap.size w w' → ExtPost F b R c ti by_ ls w (.returned (.int .i64 3)) w') := N
    clear N
    go_wp2_with fail
    go_quiet (fail)
    go_wp2
    go_ret
    exact HN.out _ (below_drewN B3.out nq)
end Go.Proofs.Ytddkgkafgjdheaa.Rs
