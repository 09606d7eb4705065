/-
  The chapter's own link: Due.
-/
import Derived.Test.YtjladfpfhhnagaaLinkRef3
namespace Go.Proofs.Ytjladfpfhhnagaa.Lk
set_option linter.unusedVariables false
set_option linter.unusedSimpArgs false
open Go Go.RowKit Go.Shelf Go.Proofs Go.Proofs.Ytjladfpfhhnagaa.Tick Go.Proofs.Ytjladfpfhhnagaa.Plain
attribute [local go_sem] Oper.semAt_some

theorem RAt.late {w : World} {r g N : Nat} {rsd : Int} {M : Mp} (h : RAt w r g N rsd M) {k : Nat} (hk : k < N) {t : Tl} {at_ : Int} (hM : M (k : Int) = some (t, at_)) (now : Int) : RAt (w.setCell ⟨g, k * 21 + 20, none⟩ (.int .i64 now)) r g N rsd (upd M (k : Int) (some (t, now))) := by
  have hs : w.setCell ⟨g, k * 21 + 20, none⟩ (.int .i64 now) = w.setCells g (k * 21 + 20) [.int .i64 now] := rfl
  rw [hs]
  refine ⟨(setCells_heap g r h.ne _ _ w).trans h.at_, fun j hj => ?_, fun j hj => World.there_setCells (h.there j hj) _ _ _, by rw [(setCells_rest g _ _ w).1]; exact h.lt, h.ne⟩
  unfold upd
  by_cases e : j = k
  · subst e
    rw [if_pos rfl]
    intro i v hv
    have hold := h.row j hj
    rw [hM] at hold
    by_cases hi : i = 20
    · subst hi
      have he : v = .int .i64 now := by cases hv; rfl
      subst he
      have hth : w.there g (j * 21 + 20) 1 := fun q hq => by
        obtain rfl : q = 0 := by omega
        exact h.there j hj 20 (by decide)
      exact World.rangeAt_setCells_same w g (j * 21 + 20) [.int .i64 now] hth 0 _ rfl
    · have hlt : i < 21 := (List.getElem?_eq_some_iff.1 hv).1
      have hv' : (wL (some (t, at_)))[i]? = some v := by
        have h20 : i < 20 := by omega
        have e1 : ∀ z, (wL (some (t, z)))[i]? = ((Value.bool true) :: tlL t)[i]? := fun z => by
          show ((Value.bool true :: tlL t) ++ [.int .i64 z])[i]? = _
          rw [List.getElem?_append_left (by simp [tlL]; omega)]
        rw [e1] at hv ⊢
        exact hv
      rw [World.cell?_setCells_out _ _ _ _ _ (fun _ _ => by
        simp only [List.length_cons, List.length_nil]
        omega)]
      exact hold i v hv'
  · rw [if_neg (by omega)]
    exact World.rangeAt_setCells_apart (h.row j hj) _ _ _ (by rw [wL_len]; simp only [List.length_cons, List.length_nil]; omega)
set_option maxRecDepth 100000 in
set_option maxHeartbeats 4000000 in
theorem rdue_any {w : World} {r g N : Nat} {rsd : Int} {M : Mp} (G : RAt w r g N rsd M) (now : Int) (hN : N ≤ 8) :
    Calls Try.prog 19 #[.pointer (some ⟨r, 0, none⟩), .int .i64 now] w fun e w' => ∃ v, e = .returned v ∧ Own w' w.heap.size v (dueL now rsd M N) ∧ RAt w' r g N rsd (dueM now rsd M N) ∧ w.grownBy w' (some g) := by
  have lr : r < w.heap.size := G.rlt
  have lg : g < w.heap.size := G.lt
  have rg : r ≠ g := G.ne
  go_enter Try.func19, Try.ntmps19
  go_wp2_with fail
  go_loopw [6, 5] (fun c v wr => ∃ (k : Nat), c = .int .i64 k ∧ k ≤ N ∧ Own wr w.heap.size v (dueL now rsd M k) ∧ RAt wr r g N rsd (dueM now rsd M k) ∧ w.grownBy wr (some g)) (fun c _ _ => N - (intOf c).toNat)
  case atStart => exact ⟨0, rfl, Nat.zero_le _, World.ownsRow_nil _ _ _ _, by rw [dueM_zero]; exact G, World.grownBy.refl _ _⟩
  case round =>
    clear G
    obtain ⟨k, rfl, hk, O, G, gr⟩ := hrel
    have g0 := ref_c0 G.at_
    have g1 := ref_c1 G.at_
    by_cases hlt : k < N
    · have hlt' : (k : Int) < (N : Int) := by omega
      have c0 := G.on hlt
      have c2 := G.at2 hlt
      rw [dueM_at] at c0 c2
      cases hM : M (k : Int) with
      | none =>
        rw [hM] at c0
        simp only [Option.isSome_none] at c0
        have HE : Hid (∀ m, Own (wr.drewN m) w.heap.size u5 (dueL now rsd M (k + 1)) ∧ RAt (wr.drewN m) r g N rsd (dueM now rsd M (k + 1)) ∧ w.grownBy (wr.drewN m) (some g)) :=
          fun m => ⟨by rw [dueL_succ, hM]; simpa [due1] using owns_go O (below_drewN (Below.refl _ _) m), by rw [dueM_stay _ _ _ _ (by rw [hM]; rfl)]; exact G.same rfl rfl, grown_trans gr (grown_of (below_drewN (Below.refl _ _) m))⟩
        clear G O gr hM c2
        go_wp2_with fail
        go_quiet (fail)
        go_wp2
        go_roundw
        case rel => exact ⟨k + 1, by go_num, by omega, (HE.out _).1, (HE.out _).2.1, (HE.out _).2.2⟩
        case measure => simp [intOf]; omega
      | some s =>
        obtain ⟨t, at_⟩ := s
        rw [hM] at c0 c2
        simp only [Option.isSome_some, Option.getD_some] at c0 c2
        have HM : Hid (M (k : Int) = some (t, at_)) := hM
        have cL := fun m => rless_any now at_ (wr.drewN m)
        have HG : Hid (RAt wr r g N rsd (dueM now rsd M k)) := G
        by_cases hd : rsd ≤ less now at_
        · have HD : Hid (rsd ≤ less now at_) := hd
          have hd' : decide (rsd ≤ less now at_) = true := decide_eq_true hd
          clear G hM
          go_wp2_with fail
          go_quiet ((go_at_call 26; refine Calls.quiet_of_same (cL _)))
          obtain ⟨x0, hx0⟩ : ∃ x0, wr.drewN nq = x0 := ⟨_, rfl⟩
          have bx : Below wr.heap.size wr x0 := by rw [← hx0]; exact below_drewN (Below.refl _ _) _
          rw [hx0]
          have Gx : RAt x0 r g N rsd (dueM now rsd M k) := HG.out.go bx
          have hMk : dueM now rsd M k (k : Int) = some (t, at_) := by rw [dueM_at]; exact HM.out
          have g0x := ref_c0 Gx.at_
          obtain ⟨x1, hx1⟩ : ∃ x1, x0.setCell ⟨g, k * 21 + 20, none⟩ (.int .i64 now) = x1 := ⟨_, rfl⟩
          have G1 := Gx.late hlt hMk now
          have q1 := setCells_grown x0 g (k * 21 + 20) [.int .i64 now]
          have c2x := Gx.at2 hlt
          rw [hMk] at c2x
          simp only [Option.getD_some] at c2x
          have f2x := (Gx.there k hlt 20 (by decide)).2
          have q1' : x0.grownBy x1 (some g) := by rw [← hx1]; exact q1
          rw [hx1] at G1
          have lt1 := G1.tele hlt
          have hu1 : upd (dueM now rsd M k) (k : Int) (some (t, now)) (k : Int) = some (t, now) := by unfold upd; rw [if_pos rfl]
          rw [hu1] at lt1
          simp only [tlOf, Option.getD_some] at lt1
          have g1x := ref_c0 G1.at_
          have O1 := owns_same O (fun j hj => (q1'.block j (by have := (own_since O j hj).2; have := bx.size; omega) (fun e => by have := (own_since O j hj).1; cases e; omega)).trans (bx.block j (own_since O j hj).2))
          have gr1 : w.grownBy x1 (some g) := grown_trans gr (grown_trans (grown_of bx) q1')
          obtain ⟨x2, hx2⟩ : ∃ x2, x2 = x1.alloc (.cells (tlA t) 37) := ⟨_, rfl⟩
          have b2 : Below x1.heap.size x1 x2 := by rw [hx2]; exact (Below.refl _ _).alloc (Nat.le_refl _) _
          have hg2 : x2.heap[x1.heap.size]? = some (.cells (tlA t) 37 (0, 0)) := by rw [hx2]; exact World.alloc_heap_new _ _
          have HO2 : Hid (Own x2 w.heap.size u5 (dueL now rsd M k)) := owns_go O1 b2
          have HB2 : Hid (Below x1.heap.size x1 x2) := b2
          have HG1 : Hid (RAt x1 r g N rsd (upd (dueM now rsd M k) (k : Int) (some (t, now)))) := G1
          have HGR : Hid (w.grownBy x1 (some g)) := gr1
          have s1 : w.heap.size ≤ x1.heap.size := gr1.size
          have HV : Hid (∀ j, u5.ownBlock = some j → w.heap.size ≤ j) := fun j hj => (own_since O1 j hj).1
          clear hx0 G1 q1 q1' O1 gr1 O gr b2 Gx hMk hu1 bx
          go_wp2_with (first
            | (refine wpList_load_at rfl 37 (.tmp 56) rfl ⟨g, k * 21 + 1, none⟩ rfl (tlA t) lt1 ?_)
            | (refine wpList_one rfl (.tmp 57) rfl t rfl ?_; rw [← hx2]; clear hx2)
            | (refine wpList_push rfl (.tmp 49) (.tmp 58) rfl w.heap.size u5 (dueL now rsd M k) rfl HO2.out x1.heap.size t (0, 0) rfl hg2 (by have := dueL_len now rsd M k; omega) (by have := HB2.out.size; omega) ?_; intro v5 w5 O5 g5))
          have ng : u5.ownBlock ≠ some g := fun e => by have := HV.out _ e; omega
          have nr : u5.ownBlock ≠ some r := fun e => by have := HV.out _ e; omega
          have G4 := HG1.out.go HB2.out
          have G5 := G4.same (g5.block _ G4.rlt (fun e => nr e.symm)) (g5.block _ G4.lt (fun e => ng e.symm))
          have gr5 : w.grownBy w5 (some g) := by
            have q := grown_trans HGR.out (grown_of HB2.out)
            exact ⟨g5.os.trans q.os, g5.tape.trans q.tape, g5.output.trans q.output, Nat.le_trans q.size g5.size, fun i hi hr => (g5.block i (Nat.lt_of_lt_of_le hi q.size) (fun e => by have := HV.out i e.symm; omega)).trans (q.block i hi hr)⟩
          go_roundw
          case rel => exact ⟨k + 1, by go_num, by omega, by rw [dueL_succ, HM.out]; simpa [due1, HD.out] using O5, by rw [dueM_turn, HM.out]; simpa [wait1, HD.out] using G5, gr5⟩
          case measure => simp [intOf]; omega
        · have HD : Hid (¬ rsd ≤ less now at_) := hd
          have hd' : decide (rsd ≤ less now at_) = false := decide_eq_false hd
          have HE : Hid (∀ m, Own (wr.drewN m) w.heap.size u5 (dueL now rsd M (k + 1)) ∧ RAt (wr.drewN m) r g N rsd (dueM now rsd M (k + 1)) ∧ w.grownBy (wr.drewN m) (some g)) :=
            fun m => ⟨by rw [dueL_succ, hM]; simpa [due1, HD.out] using owns_go O (below_drewN (Below.refl _ _) m), by rw [dueM_stay _ _ _ _ (by rw [hM]; simp [wait1, HD.out])]; exact G.same rfl rfl, grown_trans gr (grown_of (below_drewN (Below.refl _ _) m))⟩
          clear G O gr hM
          go_wp2_with fail
          go_quiet ((go_at_call 26; refine Calls.quiet_of_same (cL _)))
          go_wp2
          go_roundw
          case rel => exact ⟨k + 1, by go_num, by omega, (HE.out _).1, (HE.out _).2.1, (HE.out _).2.2⟩
          case measure => simp [intOf]; omega
    · obtain rfl : k = N := by omega
      have hlt' : ¬ (k : Int) < (k : Int) := by omega
      go_wp2
      go_ret
      exact ⟨_, rfl, O, G, gr⟩
end Go.Proofs.Ytjladfpfhhnagaa.Lk
