/-
  The stable sort, whole.
  Which of two cells is nearer: what the stable sort is handed.
  A list of cells of one's own, sorted by how far they are from one, those alike in their order.
  Where bins may be put, in plain words: each free cell as often as it has room, the nearest first; the next one is always the best of those that have room left.
-/
import Derived.Test.YtebfjldbhmmmlaaSrtSym
import Derived.Test.YtebfjldbhmmmlaaGridRef3
namespace Go.Proofs.Ytebfjldbhmmmlaa.Srt
set_option linter.unusedVariables false
set_option linter.unusedSimpArgs false
open Go Go.RowKit Go.Shelf Go.Proofs Go.Proofs.Ytebfjldbhmmmlaa.Grid
attribute [local go_sem] Oper.semAt_some

section
variable {fy : Nat} {fr : Array Value} {key : Cell → Int} {g : Nat} {Cx : World → Prop} (K : Cmp fy fr key g Cx) {S n cap : Nat} {x : Nat → Cell}
include K
set_option maxRecDepth 100000 in
set_option maxHeartbeats 4000000 in
theorem stable_any (hn : n ≤ 1000000) (w : World) (h : SS g S n x Cx id w) :
    Calls Try.prog 58 #[.slice (some ⟨g, 0, none⟩) n cap, .int .i64 n, .func (.func fy) #[] fr] w fun e w' => e = .returned (.tuple #[]) ∧ ∃ q, SS g S n x Cx q w' ∧ Seg (fun t => key (x t)) q 0 n ∧ Fx g w w' := by
  have H0 : Hid (SS g S n x Cx id w) := h
  clear h
  go_enter Try.func58, Try.ntmps58
  go_wp2_with fail
  go_loopw [7, 8] (fun v7 v8 wr => ∃ (t A B : Nat) (q : Nat → Nat), A ≤ n ∧ v7 = .int .i64 A ∧ v8 = .int .i64 B ∧ Hid (A = t * 20 ∧ B = t * 20 + 20) ∧ Hid (SS g S n x Cx q wr) ∧ Hid (Fst (fun t => key (x t)) q 20 n t) ∧ Hid (Fx g w wr)) (fun v7 v8 _ => (n + 21 - intOf v8).toNat)
  case atStart => exact ⟨0, 0, 20, id, Nat.zero_le _, rfl, rfl, (⟨rfl, rfl⟩ : 0 = 0 * 20 ∧ 20 = 0 * 20 + 20), H0, Fst.start _ _ _, Fx.refl _ _⟩
  case round =>
    clear H0
    obtain ⟨t, A, B, q, hAn, rfl, rfl, HAB, HS, HFs, HF⟩ := hrel
    have hB : A + 20 ≤ B ∧ B ≤ A + 20 := by have := HAB.out; omega
    by_cases hlt : B ≤ n
    · have hd : decide ((B : Int) ≤ (n : Int)) = true := decide_eq_true (by omega)
      have cI := insertion_any K (cap := cap) hn q wr HS.out A B (by omega) hlt (by have := HAB.out; rw [this.1]; exact HFs.out.num B)
      have HNx : Hid (∀ q', Mix A B q q' → Up (fun t => key (x t)) q' A B → Fst (fun t => key (x t)) q' 20 n (t + 1)) := fun q' m u => by
        have := HAB.out
        rw [this.1, this.2] at m u
        exact HFs.out.next m u
      go_wp2_with (go_at_call 69; refine cI.mono ?_; rintro e w1 ⟨rfl, q1, s1, m1, u1, f1⟩)
      go_roundw
      case rel =>
        refine ⟨t + 1, B, B + 20, q1, hlt, rfl, by go_num, ?_, s1, HNx.out q1 m1 u1, HF.out.trans f1⟩
        show B = (t + 1) * 20 ∧ B + 20 = (t + 1) * 20 + 20
        have := HAB.out
        omega
      case measure => simp [intOf]; omega
    · have hd : decide ((B : Int) ≤ (n : Int)) = false := decide_eq_false (by omega)
      have cI := insertion_any K (cap := cap) hn q wr HS.out A n hAn (Nat.le_refl _) (by have := HAB.out; rw [this.1]; exact HFs.out.num n)
      have HNx : Hid (∀ q', Mix A n q q' → Up (fun t => key (x t)) q' A n → Blks (fun t => key (x t)) q' 20 n) := fun q' m u => by
        have := HAB.out
        rw [this.1] at m u
        exact HFs.out.last (by omega) (by omega) m u
      go_wp2_with (go_at_call 69; refine cI.mono ?_; rintro e w1 ⟨rfl, q1, s1, m1, u1, f1⟩)
      have HS1 : Hid (SS g S n x Cx q1 w1) := s1
      have HB1 : Hid (Blks (fun t => key (x t)) q1 20 n) := HNx.out q1 m1 u1
      have HF1 : Hid (Fx g w w1) := HF.out.trans f1
      clear s1 m1 u1 f1 HNx HF HS HFs HAB cI hB hlt hd
      go_loopw [6] (fun v6 wr => ∃ (s : Nat) (q : Nat → Nat), 20 ≤ s ∧ s ≤ 2 * n + 40 ∧ v6 = .int .i64 s ∧ Hid (SS g S n x Cx q wr) ∧ Hid (Blks (fun t => key (x t)) q s n) ∧ Hid (Fx g w wr)) (fun v6 _ => (2 * n + 100 - intOf v6).toNat)
      case atStart => exact ⟨20, q1, Nat.le_refl _, by omega, rfl, HS1, HB1, HF1⟩
      case round =>
        clear HS1 HB1 HF1
        obtain ⟨s, q, hs20, hsn, rfl, HS, HB, HF⟩ := hrel
        by_cases hlt : s < n
        · have hd : decide ((s : Int) < (n : Int)) = true := decide_eq_true (by omega)
          obtain ⟨D, hD⟩ : ∃ D, 2 * s = D := ⟨_, rfl⟩
          have HD : Hid (2 * s = D) := hD
          have eD : 2 * (s : Int) = (D : Int) := by omega
          have hD1 : D ≤ 2 * s ∧ 2 * s ≤ D := by omega
          have HP0 : Hid (Prs (fun t => key (x t)) q s n 0) := Prs.start HB.out
          have HS0 := HS
          have HF0 := HF
          clear hD HB HS HF
          go_wp2_with fail
          go_loopw [7, 8] (fun v7 v8 wr => ∃ (t A B : Nat) (q : Nat → Nat), A ≤ n ∧ v7 = .int .i64 A ∧ v8 = .int .i64 B ∧ Hid (A = t * (2 * s) ∧ B = t * (2 * s) + 2 * s) ∧ Hid (SS g S n x Cx q wr) ∧ Hid (Prs (fun t => key (x t)) q s n t) ∧ Hid (Fx g w wr)) (fun v7 v8 _ => (4 * n + 200 - intOf v8).toNat)
          case atStart => exact ⟨0, 0, D, q, Nat.zero_le _, rfl, rfl, (⟨by omega, by omega⟩ : 0 = 0 * (2 * s) ∧ D = 0 * (2 * s) + 2 * s), HS0, HP0, HF0⟩
          case round =>
            clear HS0 HP0 HF0
            obtain ⟨t, A, B, q, hAn, rfl, rfl, HAB, HS, HPr, HF⟩ := hrel
            have hB : A + D ≤ B ∧ B ≤ A + D := by have := HAB.out; omega
            by_cases hlt2 : B ≤ n
            · have hd2 : decide ((B : Int) ≤ (n : Int)) = true := decide_eq_true (by omega)
              have hTw : Two (fun t => key (x t)) q A (A + s) B := by
                have e := HAB.out
                rw [e.1, e.2]
                exact HPr.out.two (by omega) (Nat.min_eq_left (by omega)).symm (by omega)
              have cM := symMerge_any K (cap := cap) hn (B - A) q wr A (A + s) B (Nat.le_refl _) HS.out hTw hlt2
              rw [show ((A + s : Nat) : Int) = (A : Int) + (s : Int) by omega] at cM
              have HNx : Hid (∀ q', Mix A B q q' → Up (fun t => key (x t)) q' A B → Prs (fun t => key (x t)) q' s n (t + 1)) := fun q' m u => by
                have e := HAB.out
                rw [e.1, e.2] at m u
                exact HPr.out.next (by omega) (by omega) m u
              clear hTw
              go_wp2_with (go_at_call 70; refine cM.mono ?_; rintro e w1 ⟨rfl, q1, s1, m1, u1, f1⟩)
              go_roundw
              case rel =>
                refine ⟨t + 1, B, B + D, q1, hlt2, rfl, by go_num, ?_, s1, HNx.out q1 m1 u1, HF.out.trans f1⟩
                show B = (t + 1) * (2 * s) ∧ B + D = (t + 1) * (2 * s) + 2 * s
                have e := HAB.out
                rw [Nat.succ_mul]
                omega
              case measure => simp [intOf]; omega
            · have hd2 : decide ((B : Int) ≤ (n : Int)) = false := decide_eq_false (by omega)
              by_cases hm : A + s < n
              · have hd3 : decide ((A : Int) + (s : Int) < (n : Int)) = true := decide_eq_true (by omega)
                have hTw : Two (fun t => key (x t)) q A (A + s) n := by
                  have e := HAB.out
                  have := HPr.out.two (b := n) (by omega) (Nat.min_eq_right (by omega)).symm (by omega)
                  rw [← e.1] at this
                  exact this
                have cM := symMerge_any K (cap := cap) hn (n - A) q wr A (A + s) n (Nat.le_refl _) HS.out hTw (Nat.le_refl _)
                rw [show ((A + s : Nat) : Int) = (A : Int) + (s : Int) by omega] at cM
                have HNx : Hid (∀ q', Mix A n q q' → Up (fun t => key (x t)) q' A n → Blks (fun t => key (x t)) q' (2 * s) n) := fun q' m u => by
                  have e := HAB.out
                  rw [e.1] at m u
                  exact HPr.out.last (by omega) (by omega) (by omega) m u
                clear hTw
                go_wp2_with (go_at_call 70; refine cM.mono ?_; rintro e w1 ⟨rfl, q1, s1, m1, u1, f1⟩)
                go_roundw
                case rel =>
                  exact ⟨2 * s, q1, by omega, by omega, by go_num, s1, HNx.out q1 m1 u1, HF.out.trans f1⟩
                case measure => simp [intOf]; omega
              · have hd3 : decide ((A : Int) + (s : Int) < (n : Int)) = false := decide_eq_false (by omega)
                have HNx : Hid (Blks (fun t => key (x t)) q (2 * s) n) := by
                  have e := HAB.out
                  exact HPr.out.lone (by omega) (by omega) (by omega)
                go_wp2_with fail
                go_roundw
                case rel =>
                  exact ⟨2 * s, q, by omega, by omega, by go_num, HS, HNx, HF⟩
                case measure => simp [intOf]; omega
        · have hd : decide ((s : Int) < (n : Int)) = false := decide_eq_false (by omega)
          go_wp2_with fail
          go_end0
          exact ⟨rfl, q, HS.out, HB.out.whole (by omega), HF.out⟩
set_option maxRecDepth 100000 in
theorem sortStable_any (hn : n ≤ 1000000) (w : World) (h : SS g S n x Cx id w) :
    Calls Try.prog 43 #[.slice (some ⟨g, 0, none⟩) n cap, .func (.func fy) #[] fr] w fun e w' => e = .returned (.tuple #[]) ∧ ∃ q, SS g S n x Cx q w' ∧ Seg (fun t => key (x t)) q 0 n ∧ Fx g w w' := by
  have cS := stable_any K (cap := cap) hn w h
  clear h
  go_enter Try.func43, Try.ntmps43
  go_wp2_with (go_at_call 58; refine cS.mono ?_; rintro e w1 ⟨rfl, q1, s1, m1, f1⟩)
  go_end0
  exact ⟨rfl, q1, s1, m1, f1⟩
end
/- Of nothing. -/
theorem ins_none (fv : Value) (w : World) : Calls Try.prog 69 #[.slice none 0 0, .int .i64 0, .int .i64 0, fv] w fun e w' => e = .returned (.tuple #[]) ∧ w' = w := by
  go_enter Try.func69, Try.ntmps69
  go_wp2_with fail
  go_loopw [8] (fun v wr => v = .int .i64 1 ∧ wr = w) (fun v _ => 0)
  case atStart => exact ⟨rfl, rfl⟩
  case round =>
    obtain ⟨rfl, rfl⟩ := hrel
    go_wp2_with fail
    go_end0
    exact ⟨rfl, rfl⟩
theorem stable_none (fv : Value) (w : World) : Calls Try.prog 58 #[.slice none 0 0, .int .i64 0, fv] w fun e w' => e = .returned (.tuple #[]) ∧ w' = w := by
  have cI := ins_none fv w
  go_enter Try.func58, Try.ntmps58
  go_wp2_with fail
  go_loopw [7, 8] (fun v7 v8 wr => v7 = .int .i64 0 ∧ v8 = .int .i64 20 ∧ wr = w) (fun v _ _ => 0)
  case atStart => exact ⟨rfl, rfl, rfl⟩
  case round =>
    obtain ⟨rfl, rfl, hw0⟩ := hrel
    have hw1 := hw0.symm
    subst hw1
    go_wp2_with (go_at_call 69; refine cI.mono ?_; rintro e w1 ⟨rfl, hw2⟩; have hw3 := hw2.symm; subst hw3)
    go_loopw [6] (fun v6 wq => v6 = .int .i64 20 ∧ wq = w) (fun v _ => 0)
    case atStart => exact ⟨rfl, rfl⟩
    case round =>
      obtain ⟨rfl, hw⟩ := hrel
      go_wp2_with fail
      go_end0
      first | exact ⟨rfl, rfl⟩ | exact ⟨rfl, hw⟩
theorem sortStable_none (fv : Value) (w : World) : Calls Try.prog 43 #[.slice none 0 0, fv] w fun e w' => e = .returned (.tuple #[]) ∧ w' = w := by
  have cI := stable_none fv w
  go_enter Try.func43, Try.ntmps43
  go_wp2_with (go_at_call 58; refine cI.mono ?_; rintro e w1 ⟨rfl, hw⟩)
  go_end0
  first | exact ⟨rfl, rfl⟩ | exact ⟨rfl, hw⟩
end Go.Proofs.Ytebfjldbhmmmlaa.Srt
namespace Go.Proofs.Ytebfjldbhmmmlaa.Srt
set_option linter.unusedVariables false
set_option linter.unusedSimpArgs false
open Go Go.RowKit Go.Shelf Go.Proofs Go.Proofs.Ytebfjldbhmmmlaa.Grid
attribute [local go_sem] Oper.semAt_some

theorem nan_any (x : Int) (w : World) : Calls Try.prog 59 #[.int .i64 x] w fun e w' => e = .returned (.bool false) ∧ Below w.heap.size w w' := by
  have hx : (x != x) = false := by simp
  go_enter Try.func59, Try.ntmps59
  go_wp2
  go_ret
  exact ⟨by first | rfl | simp, Below.refl _ _⟩
theorem compare_any (x y : Int) (w : World) : Calls Try.prog 45 #[.int .i64 x, .int .i64 y] w fun e w' => ∃ v, e = .returned v ∧ ((∃ z : Int, v = .int .i64 z ∧ decide (z < 0) = decide (x < y)) ∧ Below w.heap.size w w') := by
  have cN := fun a u => nan_any a u
  by_cases h : x < y
  · go_enter Try.func45, Try.ntmps45
    go_wp2_with (first
      | (have X' := b1; go_at_call 59; refine (cN y _).mono ?_; rintro e w2 ⟨rfl, b2⟩)
      | (go_at_call 59; refine (cN x _).mono ?_; rintro e w1 ⟨rfl, b1⟩))
    go_ret
    exact ⟨_, rfl, ⟨-1, rfl, by rw [decide_eq_true h]; rfl⟩, bcat b1 b2 (Nat.le_refl _)⟩
  · by_cases h2 : y < x
    · have hd : decide (x < y) = false := decide_eq_false h
      go_enter Try.func45, Try.ntmps45
      go_wp2_with (first
        | (have X' := b1; go_at_call 59; refine (cN y _).mono ?_; rintro e w2 ⟨rfl, b2⟩)
        | (go_at_call 59; refine (cN x _).mono ?_; rintro e w1 ⟨rfl, b1⟩))
      go_ret
      exact ⟨_, rfl, ⟨1, rfl, by rw [decide_eq_false (by omega : ¬ x < y)]; rfl⟩, bcat b1 b2 (Nat.le_refl _)⟩
    · have hd : decide (x < y) = false := decide_eq_false h
      have hd2 : decide (y < x) = false := decide_eq_false h2
      go_enter Try.func45, Try.ntmps45
      go_wp2_with (first
        | (have X' := b1; go_at_call 59; refine (cN y _).mono ?_; rintro e w2 ⟨rfl, b2⟩)
        | (go_at_call 59; refine (cN x _).mono ?_; rintro e w1 ⟨rfl, b1⟩))
      go_ret
      exact ⟨_, rfl, ⟨0, rfl, by rw [decide_eq_false (by omega : ¬ x < y)]; rfl⟩, bcat b1 b2 (Nat.le_refl _)⟩
set_option maxRecDepth 100000 in
set_option maxHeartbeats 2000000 in
theorem near_any (Bf : Nat) (fx fy ax ay bx by_ : Int) (w : World) (hF : w.heap[Bf]? = some (.cells #[.int .i64 fx, .int .i64 fy] 30 (0, 0))) :
    Calls Try.prog 44 #[.agg #[.int .i64 ax, .int .i64 ay], .agg #[.int .i64 bx, .int .i64 by_], .pointer (some ⟨Bf, 0, none⟩)] w fun e w' => ∃ v, e = .returned v ∧ (∃ z : Int, v = .int .i64 z ∧ decide (z < 0) = decide (awayP (fx, fy) (ax, ay) < awayP (fx, fy) (bx, by_))) ∧ Below w.heap.size w w' := by
  obtain ⟨wz, hwz⟩ : ∃ wz, wz = (w.alloc (.cells #[.int .i64 ax, .int .i64 ay] 30)).alloc (.cells #[.int .i64 bx, .int .i64 by_] 30) := ⟨_, rfl⟩
  have bz : Below w.heap.size w wz := by rw [hwz]; exact below_two _ _ _
  have ha : wz.heap[w.heap.size]? = some (.cells #[.int .i64 ax, .int .i64 ay] 30 (0, 0)) := by rw [hwz]; exact (alloc_old _ _ _ (by simp)).trans (heap_alloc_new w _)
  have hb : wz.heap[w.heap.size + 1]? = some (.cells #[.int .i64 bx, .int .i64 by_] 30 (0, 0)) := by rw [hwz]; exact heap_new2 _ _ _
  have hf : wz.heap[Bf]? = some (.cells #[.int .i64 fx, .int .i64 fy] 30 (0, 0)) := (bz.block _ (lt_of_heap hF)).trans hF
  have HF : Hid (∀ u, Below wz.heap.size wz u → ∀ j z, #[Value.int .i64 fx, .int .i64 fy][j]? = some z → u.cell? ((⟨Bf, 0, none⟩ : Addr).add j) = some z) := fun u hu => row_below hf hu
  have HA : Hid (∀ u, Below wz.heap.size wz u → ∀ j z, #[Value.int .i64 ax, .int .i64 ay][j]? = some z → u.cell? ((⟨w.heap.size, 0, none⟩ : Addr).add j) = some z) := fun u hu => row_below ha hu
  have HB : Hid (∀ u, Below wz.heap.size wz u → ∀ j z, #[Value.int .i64 bx, .int .i64 by_][j]? = some z → u.cell? ((⟨w.heap.size + 1, 0, none⟩ : Addr).add j) = some z) := fun u hu => row_below hb hu
  have HZ : Hid (Below w.heap.size w wz) := bz
  clear ha hb hf hF bz
  go_enter Try.func44, Try.ntmps44
  go_upto_region 1 with fail
  rw [← hwz]
  clear hwz
  have S0 : Below wz.heap.size wz wz.drew := (Below.refl _ _).drew
  refine start_held (S := fun u => Below wz.heap.size wz u) 8 rfl (by kernel_rfl) (S0) ?_
  simp only [Array.replicate_succ, Array.replicate_zero, List.push_toArray, List.nil_append, List.cons_append]
  refine take_held 0 S0 rfl (by kernel_rfl) (by kernel_rfl) (by kernel_rfl) (fun _ _ _ h => h) (by kernel_rfl) (v := .agg #[.int .i64 fx, .int .i64 fy]) ?y0 ?r0
  case y0 => (intro u hu; exact run_load_op 30 _ rfl ⟨Bf, 0, none⟩ _ rfl (HF.out u hu) (aggCell u) infoCell2)
  simp only [Act.put, List.setIfInBounds_toArray, List.set_cons_zero, List.set_cons_succ]
  refine take_held 1 S0 rfl (by kernel_rfl) (by kernel_rfl) (by kernel_rfl) (fun _ _ _ h => h) (by kernel_rfl) (v := .agg #[.int .i64 ax, .int .i64 ay]) ?y1 ?r1
  case y1 => (intro u hu; exact run_load_op 30 _ rfl ⟨w.heap.size, 0, none⟩ _ rfl (HA.out u hu) (aggCell u) infoCell2)
  simp only [Act.put, List.setIfInBounds_toArray, List.set_cons_zero, List.set_cons_succ]
  refine take_held 3 S0 rfl (by kernel_rfl) (by kernel_rfl) (by kernel_rfl) (fun _ _ _ h => h) (by kernel_rfl) (v := .agg #[.int .i64 fx, .int .i64 fy]) ?y2 ?r2
  case y2 => (intro u hu; exact run_load_op 30 _ rfl ⟨Bf, 0, none⟩ _ rfl (HF.out u hu) (aggCell u) infoCell2)
  simp only [Act.put, List.setIfInBounds_toArray, List.set_cons_zero, List.set_cons_succ]
  refine take_held 4 S0 rfl (by kernel_rfl) (by kernel_rfl) (by kernel_rfl) (fun _ _ _ h => h) (by kernel_rfl) (v := .agg #[.int .i64 bx, .int .i64 by_]) ?y3 ?r3
  case y3 => (intro u hu; exact run_load_op 30 _ rfl ⟨w.heap.size + 1, 0, none⟩ _ rfl (HB.out u hu) (aggCell u) infoCell2)
  simp only [Act.put, List.setIfInBounds_toArray, List.set_cons_zero, List.set_cons_succ]
  refine wpAnyH_ready (rs := [2]) (by kernel_rfl) (by simp) (AllReadyH.cons ((nth_eq _ 2).trans rfl) ?_ AllReadyH.nil)
  intro K' hK
  refine call_in hK (by kernel_rfl) 46 #[.agg #[.int .i64 fx, .int .i64 fy], .agg #[.int .i64 ax, .int .i64 ay]] (by go_simp) _ (away_any fx fy ax ay _) ?_
  rintro v1 x1 ⟨rfl, b1⟩
  have S1 : Below wz.heap.size wz x1 := bcat S0 b1 (Nat.le_refl _)
  refine ⟨S1, ?_⟩
  simp only [Act.put, List.setIfInBounds_toArray, List.set_cons_zero, List.set_cons_succ]
  refine wpAnyH_ready (rs := [5]) (by kernel_rfl) (by simp) (AllReadyH.cons ((nth_eq _ 5).trans rfl) ?_ AllReadyH.nil)
  intro K' hK
  refine call_in hK (by kernel_rfl) 46 #[.agg #[.int .i64 fx, .int .i64 fy], .agg #[.int .i64 bx, .int .i64 by_]] (by go_simp) _ (away_any fx fy bx by_ _) ?_
  rintro v2 x2 ⟨rfl, b2⟩
  have S2 : Below wz.heap.size wz x2 := bcat S1 b2 (Nat.le_refl _)
  refine ⟨S2, ?_⟩
  simp only [Act.put, List.setIfInBounds_toArray, List.set_cons_zero, List.set_cons_succ]
  refine wpAnyH_ready (rs := [6]) (by kernel_rfl) (by simp) (AllReadyH.cons ((nth_eq _ 6).trans rfl) ?_ AllReadyH.nil)
  intro K' hK
  refine call_in hK (by kernel_rfl) 45 #[.int .i64 (awayP (fx, fy) (ax, ay)), .int .i64 (awayP (fx, fy) (bx, by_))] (by go_simp) _ (compare_any _ _ _) ?_
  rintro v3 x3 ⟨hv3, b3⟩
  have S3 : Below wz.heap.size wz x3 := bcat S2 b3 (Nat.le_refl _)
  refine ⟨S3, ?_⟩
  simp only [Act.put, List.setIfInBounds_toArray, List.set_cons_zero, List.set_cons_succ]
  refine take_held 7 S3 rfl (by kernel_rfl) (by kernel_rfl) (by kernel_rfl) (fun _ _ _ h => h) (by kernel_rfl) (v := ?v4) ?y4 ?r4
  case y4 => (intro u hu; go_simp; try rfl)
  simp only [Act.put, List.setIfInBounds_toArray, List.set_cons_zero, List.set_cons_succ]
  refine done_held (by kernel_rfl) ?_ _
  go_wp2_with fail
  go_ret
  exact ⟨_, rfl, hv3, bcat HZ.out S3 (Nat.le_refl _)⟩
/- The order by how far cells are from one. -/
theorem near_cmp (Bf g : Nat) (f : Cell) (hne : Bf ≠ g) : Cmp 44 #[.pointer (some ⟨Bf, 0, none⟩)] (fun c => awayP f c) g (fun u => u.heap[Bf]? = some (.cells #[.int .i64 f.1, .int .i64 f.2] 30 (0, 0))) :=
  ⟨enters_of Try.func44 (by kernel_rfl) rfl, fun a b u h => near_any Bf f.1 f.2 a.1 a.2 b.1 b.2 u h, fun u u' h f => (f.block _ (lt_of_heap h) hne).trans h⟩
end Go.Proofs.Ytebfjldbhmmmlaa.Srt
namespace Go.Proofs.Ytebfjldbhmmmlaa.Srt
set_option linter.unusedVariables false
set_option linter.unusedSimpArgs false
open Go Go.RowKit Go.Shelf Go.Proofs Go.Proofs.Ytebfjldbhmmmlaa.Grid

/- The same items, those that are nearer first, those alike in their order. -/
structure Sorted (key : Cell → Int) (l l' : List Cell) : Prop where
  len : l'.length = l.length
  ord : ∃ q : Nat → Nat, Seg (fun t => key (l.getD t (0, 0))) q 0 l.length ∧ ∀ k, k < l.length → l'.getD k (0, 0) = l.getD (q k) (0, 0)
theorem Sorted.nil (key : Cell → Int) : Sorted key [] [] := ⟨rfl, id, Seg.empty _ _ (Nat.le_refl _), fun k h => by simp at h⟩
theorem cells_row (cur : List Value) (l : List Cell) (hl : cur.length = l.length * 2) (h : ∀ k, k < l.length → cur[k * 2]? = some (.int .i64 (l.getD k (0, 0)).1) ∧ cur[k * 2 + 1]? = some (.int .i64 (l.getD k (0, 0)).2)) : cur = rowL cellL l := by
  have hlen := rowL_len kindCell.len l
  refine List.ext_getElem? fun i => ?_
  by_cases hi : i < l.length * 2
  · have hk : i / 2 < l.length := by omega
    have hg : l.getD (i / 2) (0, 0) = l[i / 2]'hk := by rw [List.getD_eq_getElem?_getD, List.getElem?_eq_getElem hk]; rfl
    rcases (show i = i / 2 * 2 ∨ i = i / 2 * 2 + 1 by omega) with e | e
    · have := rowL_at (S := 2) kindCell.len l (i / 2) hk 0 (.int .i64 (l[i / 2]'hk).1) rfl
      rw [Nat.add_zero, ← e] at this
      have q := (h _ hk).1
      rw [← e, hg] at q
      rw [q, this]
    · have := rowL_at (S := 2) kindCell.len l (i / 2) hk 1 (.int .i64 (l[i / 2]'hk).2) rfl
      rw [← e] at this
      have q := (h _ hk).2
      rw [← e, hg] at q
      rw [q, this]
  · rw [List.getElem?_eq_none (by omega), List.getElem?_eq_none (by omega)]
theorem sort_any (Bf : Nat) (f : Cell) (base : Nat) (v : Value) (l : List Cell) (w : World) (h : w.ownsRow base 30 2 v l.length (rowL cellL l)) (hF : w.heap[Bf]? = some (.cells #[.int .i64 f.1, .int .i64 f.2] 30 (0, 0))) (hB : Bf < base) (hn : l.length ≤ 1000000) :
    Calls Try.prog 43 #[v, .func (.func 44) #[] #[.pointer (some ⟨Bf, 0, none⟩)]] w fun e w' => e = .returned (.tuple #[]) ∧ ∃ l', Sorted (fun c => awayP f c) l l' ∧ w'.ownsRow base 30 2 v l'.length (rowL cellL l') ∧ (∀ b, b < w.heap.size → v.ownBlock ≠ some b → w'.heap[b]? = w.heap[b]?) ∧ w'.os = w.os ∧ w'.tape = w.tape ∧ w'.output = w.output ∧ w.heap.size ≤ w'.heap.size := by
  rcases h.2 with ⟨hv, h0⟩ | ⟨g, cap, cur, hv, h1, h2, h3, h4, h5, h6⟩
  · have e : l = [] := List.eq_nil_of_length_eq_zero h0
    subst e
    subst hv
    refine (sortStable_none _ w).mono ?_
    rintro e w' ⟨rfl, rfl⟩
    exact ⟨rfl, [], Sorted.nil _, h, fun _ _ _ => rfl, rfl, rfl, rfl, Nat.le_refl _⟩
  · subst hv
    have hcell : ∀ k, k < l.length → cur[k * 2]? = some (.int .i64 (l.getD k (0, 0)).1) ∧ cur[k * 2 + 1]? = some (.int .i64 (l.getD k (0, 0)).2) := by
      intro k hk
      have hg : l.getD k (0, 0) = l[k]'hk := by rw [List.getD_eq_getElem?_getD, List.getElem?_eq_getElem hk]; rfl
      have a0 := rowL_at (S := 2) kindCell.len l k hk 0 (.int .i64 (l[k]'hk).1) rfl
      have a1 := rowL_at (S := 2) kindCell.len l k hk 1 (.int .i64 (l[k]'hk).2) rfl
      rw [← h6, List.getElem?_take_of_lt (by omega), Array.getElem?_toList] at a0 a1
      rw [hg]
      exact ⟨a0, a1⟩
    have hS : SS g (cap * 2) l.length (fun t => l.getD t (0, 0)) (fun u => u.heap[Bf]? = some (.cells #[.int .i64 f.1, .int .i64 f.2] 30 (0, 0))) id w := ⟨⟨cur, h2, h5, hcell⟩, hF⟩
    refine (sortStable_any (near_cmp Bf g f (by omega)) (cap := cap) hn w hS).mono ?_
    rintro e w' ⟨rfl, q, s, sg, fx⟩
    obtain ⟨cur', c1, c2, c3⟩ := s.row.hd
    have hl' : ((List.range l.length).map (fun k => l.getD (q k) (0, 0))).length = l.length := by simp
    have hg' : ∀ k, k < l.length → ((List.range l.length).map (fun k => l.getD (q k) (0, 0))).getD k (0, 0) = l.getD (q k) (0, 0) := by
      intro k hk
      rw [List.getD_eq_getElem?_getD, List.getElem?_map, List.getElem?_range hk]
      rfl
    refine ⟨rfl, (List.range l.length).map (fun k => l.getD (q k) (0, 0)), ⟨hl', q, sg, hg'⟩, ⟨rowL_len kindCell.len _, .inr ⟨g, cap, cur', by rw [hl'], h1, c1, by rw [hl']; exact h3, h4, c2, ?_⟩⟩, fun b hb hne => fx.block b hb (fun e => hne (by rw [e]; rfl)), fx.os, fx.tape, fx.output, fx.size⟩
    refine cells_row _ _ ?_ ?_
    · have ec : cur'.toList.length = cap * 2 := by rw [Array.length_toList]; exact c2
      rw [List.length_take, ec, hl']
      omega
    · intro k hk
      rw [hl'] at hk
      rw [hg' k hk, hl', List.getElem?_take_of_lt (by omega), List.getElem?_take_of_lt (by omega), Array.getElem?_toList, Array.getElem?_toList]
      exact c3 k hk
end Go.Proofs.Ytebfjldbhmmmlaa.Srt
namespace Go.Proofs.Ytebfjldbhmmmlaa.Dig
set_option linter.unusedSectionVars false
set_option linter.unusedVariables false
variable {α : Type} [DecidableEq α]
/- Each cell as often as it has room. -/
def spots (room : α → Nat) (S : List α) : List α := S.flatMap fun c => List.replicate (room c) c
theorem spots_cons (room : α → Nat) (a : α) (S : List α) : spots room (a :: S) = List.replicate (room a) a ++ spots room S := by simp [spots]
theorem spots_mem {room : α → Nat} {S : List α} {c : α} (h : c ∈ spots room S) : c ∈ S ∧ 0 < room c := by
  unfold spots at h
  rw [List.mem_flatMap] at h
  obtain ⟨x, hx, hc⟩ := h
  rw [List.mem_replicate] at hc
  obtain ⟨h1, rfl⟩ := hc
  exact ⟨hx, by omega⟩
theorem spots_none {room : α → Nat} {S : List α} {c : α} (h : c ∉ S) (k : Nat) : ((spots room S).take k).count c = 0 := by
  rw [List.count_eq_zero]
  intro hc
  exact h (spots_mem (List.mem_of_mem_take hc)).1
/- The best of those that may be: it may be, and all others that may be come behind it. -/
structure Best (lt : α → α → Prop) (may : α → Prop) (S : List α) (c : α) : Prop where
  mem : c ∈ S
  ok : may c
  least : ∀ x ∈ S, may x → x = c ∨ lt c x
/- What is left behind the first k: a cell may be taken while it was given less often than it has room. -/
theorem next_best {lt : α → α → Prop} {room : α → Nat} : ∀ (S : List α), S.Pairwise lt → S.Nodup → ∀ k,
    (∀ h : k < (spots room S).length, Best lt (fun c => ((spots room S).take k).count c < room c) S ((spots room S)[k]'h)) ∧
    ((spots room S).length ≤ k → ∀ c ∈ S, ¬ ((spots room S).take k).count c < room c)
  | [], _, _, k => ⟨fun h => by simp [spots] at h, fun _ c hc => by simp at hc⟩
  | a :: S, hp, hn, k => by
    have hp2 := List.pairwise_cons.1 hp
    have hn2 := List.nodup_cons.1 hn
    have e := spots_cons room a S
    have hlen : (spots room (a :: S)).length = room a + (spots room S).length := by rw [e, List.length_append, List.length_replicate]
    by_cases hk : k < room a
    · have ht : (spots room (a :: S)).take k = List.replicate k a := by
        rw [e, List.take_append_of_le_length (by rw [List.length_replicate]; omega), List.take_replicate, Nat.min_eq_left (by omega)]
      refine ⟨fun h => ?_, fun h => by omega⟩
      have hx : (spots room (a :: S))[k]'h = a := by
        have : (spots room (a :: S))[k]? = some a := by
          rw [e, List.getElem?_append_left (by rw [List.length_replicate]; exact hk), List.getElem?_replicate, if_pos hk]
        rw [List.getElem?_eq_getElem h] at this
        exact Option.some.inj this
      rw [hx, ht]
      refine ⟨by simp, ?_, fun x hx _ => ?_⟩
      · rw [List.count_replicate_self]; exact hk
      · rcases List.mem_cons.1 hx with rfl | hx
        · exact Or.inl rfl
        · exact Or.inr (hp2.1 x hx)
    · obtain ⟨j, hj⟩ : ∃ j, k = room a + j := ⟨k - room a, by omega⟩
      subst hj
      have ht : (spots room (a :: S)).take (room a + j) = List.replicate (room a) a ++ (spots room S).take j := by
        rw [e, List.take_append, List.length_replicate, Nat.add_sub_cancel_left, List.take_of_length_le (by rw [List.length_replicate]; omega)]
      have ih := next_best (room := room) S hp2.2 hn2.2 j
      have ca : ((spots room (a :: S)).take (room a + j)).count a = room a := by
        rw [ht, List.count_append, List.count_replicate_self, spots_none hn2.1, Nat.add_zero]
      have cx : ∀ x ∈ S, ((spots room (a :: S)).take (room a + j)).count x = ((spots room S).take j).count x := fun x hx => by
        rw [ht, List.count_append, List.count_replicate, if_neg (by intro q; have := eq_of_beq q; subst this; exact hn2.1 hx), Nat.zero_add]
      refine ⟨fun h => ?_, fun h c hc => ?_⟩
      · have hjl : j < (spots room S).length := by omega
        have hx : (spots room (a :: S))[room a + j]'h = (spots room S)[j]'hjl := by
          have : (spots room (a :: S))[room a + j]? = (spots room S)[j]? := by
            rw [e, List.getElem?_append_right (by rw [List.length_replicate]; omega), List.length_replicate, Nat.add_sub_cancel_left]
          rw [List.getElem?_eq_getElem h, List.getElem?_eq_getElem hjl] at this
          exact Option.some.inj this
        obtain ⟨b1, b2, b3⟩ := ih.1 hjl
        rw [hx]
        refine ⟨by simp [b1], by show _ < _; rw [cx _ b1]; exact b2, fun x hxm hmay => ?_⟩
        rcases List.mem_cons.1 hxm with rfl | hxm
        · exact absurd hmay (by show ¬ _ < _; rw [ca]; omega)
        · exact b3 x hxm (by have : _ < _ := hmay; rwa [cx x hxm] at this)
      · rcases List.mem_cons.1 hc with rfl | hc
        · rw [ca]; omega
        · rw [cx c hc]
          exact ih.2 (by omega) c hc
/- The chapter's way: through all in their order, the first of the least. -/
structure First (key : α → Int) (may : α → Prop) (L : List α) (i : Nat) : Prop where
  lt : i < L.length
  ok : may (L[i]'lt)
  least : ∀ j (hj : j < L.length), may (L[j]'hj) → key (L[i]'lt) ≤ key (L[j]'hj) ∧ (j < i → key (L[i]'lt) < key (L[j]'hj))
/- An order by a key, those alike by their place in L. -/
def before (key : α → Int) (L : List α) (a b : α) : Prop := key a < key b ∨ (key a = key b ∧ L.idxOf a < L.idxOf b)
theorem best_first {key : α → Int} {may : α → Prop} {L S : List α} (hn : L.Nodup) (hS : ∀ x ∈ S, x ∈ L) (hm : ∀ x ∈ L, may x → x ∈ S) {c : α} (h : Best (before key L) may S c) {i : Nat} (f : First key may L i) : L[i]'f.lt = c := by
  have hc := hS c h.mem
  have hi : L[i]'f.lt ∈ S := hm _ (List.getElem_mem _) f.ok
  rcases h.least _ hi f.ok with e | e
  · exact e
  · obtain ⟨j, hj, ej⟩ := List.getElem_of_mem hc
    have q := f.least j hj (by rw [ej]; exact h.ok)
    rw [ej] at q
    have i1 : L.idxOf c = j := by rw [← ej]; exact hn.idxOf_getElem j hj
    have i2 : L.idxOf (L[i]'f.lt) = i := hn.idxOf_getElem i f.lt
    unfold before at e
    rw [i1, i2] at e
    exfalso
    rcases e with e | ⟨e1, e2⟩
    · omega
    · have := q.2 e2
      omega

open Go Go.Proofs.Ytebfjldbhmmmlaa.Grid Go.Proofs.Ytebfjldbhmmmlaa.Srt
/- In a list without doubles, what stands ahead has the lower place. -/
theorem idx_rises {α : Type} [DecidableEq α] {L : List α} (hn : L.Nodup) : L.Pairwise (fun x y => L.idxOf x < L.idxOf y) := by
  rw [List.pairwise_iff_getElem]
  intro i j hi hj hij
  rw [hn.idxOf_getElem i hi, hn.idxOf_getElem j hj]
  exact hij
theorem getD_at {l : List Cell} {k : Nat} (h : k < l.length) : l.getD k (0, 0) = l[k]'h := by rw [List.getD_eq_getElem?_getD, List.getElem?_eq_getElem h]; rfl
/- What the stable sort makes of those that are left of a list. -/
theorem sorted_before {key : Cell → Int} {L S : List Cell} (hn : L.Nodup) {p : Cell → Bool} (h : Sorted key (L.filter p) S) : S.Pairwise (before key L) ∧ S.Nodup ∧ ∀ x, x ∈ S ↔ x ∈ L.filter p := by
  obtain ⟨hl, q, hs, hq⟩ := h
  have hnF : (L.filter p).Nodup := List.Pairwise.filter p hn
  have hr := List.Pairwise.filter p (idx_rises hn)
  generalize hF : L.filter p = F at *
  have hS : ∀ k (h : k < S.length), S[k]'h = F.getD (q k) (0, 0) := fun k h => by rw [← getD_at h]; exact hq k (by omega)
  have hqb : ∀ k, k < F.length → q k < F.length := fun k hk => (hs.own k (Nat.zero_le _) hk).2
  have hb : S.Pairwise (before key L) := by
    rw [List.pairwise_iff_getElem]
    intro i j hi hj hij
    rw [hS i hi, hS j hj]
    have b1 := hqb i (by omega)
    have b2 := hqb j (by omega)
    have hlt := hs.up i j (Nat.zero_le _) hij (by omega)
    unfold Srt.lt at hlt
    rcases hlt with e | ⟨e1, e2⟩
    · exact Or.inl e
    · refine Or.inr ⟨e1, ?_⟩
      rw [getD_at b1, getD_at b2]
      exact List.pairwise_iff_getElem.1 hr _ _ b1 b2 e2
  refine ⟨hb, ?_, fun x => ?_⟩
  · refine List.Pairwise.imp ?_ hb
    intro a b h e
    subst e
    unfold before at h
    omega
  · constructor
    · intro hx
      obtain ⟨k, hk, e⟩ := List.getElem_of_mem hx
      rw [hS k hk, getD_at (hqb k (by omega))] at e
      rw [← e]
      exact List.getElem_mem _
    · intro hx
      obtain ⟨v, hv, e⟩ := List.getElem_of_mem hx
      obtain ⟨k, k1, k2, k3⟩ := hs.all v (Nat.zero_le _) hv
      have hk : k < S.length := by omega
      have := hS k hk
      rw [k3, getD_at hv, e] at this
      rw [← this]
      exact List.getElem_mem _
end Go.Proofs.Ytebfjldbhmmmlaa.Dig
