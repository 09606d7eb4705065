/-
  The chapter's own answer, further: the stack cells in order.
  The runs of a pose, in plain words: those ahead of the first one that is not legal.
  The chapter's own answer, further: the moves of a pose.
  A run of many cells, in plain words: as many runs of one; the numbers of the cells that are swept rise.
-/
import Derived.Test.YtedmfhkdaifegaaGreatRgK
import Derived.Test.YtedmfhkdaifegaaGreatGridRef6
import Derived.Test.YtedmfhkdaifegaaGreatRgD
import Derived.Deep.DeepCutAuto
import Derived.Deep.CutRange
namespace Go.Proofs.YtedmfhkdaifegaaGreat.Grid
set_option linter.unusedVariables false
set_option linter.unusedSimpArgs false
open Go Go.RowKit Go.Shelf Go.Proofs
attribute [local go_sem] Oper.semAt_some

end Go.Proofs.YtedmfhkdaifegaaGreat.Grid
namespace Go.Proofs.YtedmfhkdaifegaaGreat.Grid
set_option linter.unusedVariables false
set_option linter.unusedSimpArgs false
open Go Go.RowKit Go.Shelf Go.Proofs

/- The first k runs in a direction. -/
def firstRuns (p : Pose) (d : Int) (k : Nat) : List Move := (List.range k).map fun (i : Nat) => runM p d ((i : Int) + 1)
theorem firstRuns_succ (p : Pose) (d : Int) (k : Nat) : firstRuns p d (k + 1) = firstRuns p d k ++ [runM p d ((k : Int) + 1)] := by
  unfold firstRuns
  rw [List.range_succ, List.map_append]
  rfl
theorem firstRuns_len (p : Pose) (d : Int) (k : Nat) : (firstRuns p d k).length = k := by
  unfold firstRuns
  simp
/- Where the runs from n0 on end. -/
theorem runs_first {W H : Int} {us : List Int} {p : Pose} {d : Int} : ∀ (f : Nat) (n0 : Int) (k : Nat), k ≤ f → (∀ i : Nat, i < k → fitsU W H us (shiftP p d (n0 + i)) = true) → (k = f ∨ fitsU W H us (shiftP p d (n0 + k)) = false) →
    runsP W H us p d f n0 = (List.range k).map fun (i : Nat) => runM p d (n0 + i)
  | 0, n0, k, h1, h2, h3 => by
    obtain rfl : k = 0 := by omega
    rfl
  | f + 1, n0, 0, h1, h2, h3 => by
    unfold runsP
    rcases h3 with h3 | h3
    · omega
    · rw [show n0 + ((0 : Nat) : Int) = n0 by simp] at h3
      rw [if_neg (by rw [h3]; simp)]
      rfl
  | f + 1, n0, k + 1, h1, h2, h3 => by
    unfold runsP
    have h0 := h2 0 (by omega)
    rw [show n0 + ((0 : Nat) : Int) = n0 by simp] at h0
    rw [if_pos h0, runs_first f (n0 + 1) k (by omega) (fun i hi => by
      have := h2 (i + 1) (by omega)
      rwa [show n0 + ((i + 1 : Nat) : Int) = n0 + 1 + (i : Int) by omega] at this) (by
      rcases h3 with h3 | h3
      · exact Or.inl (by omega)
      · exact Or.inr (by rwa [show n0 + ((k + 1 : Nat) : Int) = n0 + 1 + (k : Int) by omega] at h3))]
    rw [List.range_succ_eq_map, List.map_cons, List.map_map]
    congr 1
    · rw [show n0 + ((0 : Nat) : Int) = n0 by simp]
    · refine List.map_congr_left fun i _ => ?_
      show runM p d (n0 + 1 + (i : Int)) = runM p d (n0 + ((i + 1 : Nat) : Int))
      rw [show n0 + 1 + (i : Int) = n0 + ((i + 1 : Nat) : Int) by omega]
theorem dir_first {W H : Int} {us : List Int} {p : Pose} {d : Int} (k : Nat) (h1 : k ≤ 16) (h2 : ∀ i : Nat, i < k → fitsU W H us (shiftP p d ((i : Int) + 1)) = true) (h3 : k = 16 ∨ fitsU W H us (shiftP p d ((k : Int) + 1)) = false) : dirP W H us p d = firstRuns p d k := by
  unfold dirP firstRuns
  rw [runs_first 16 1 k h1 (fun i hi => by rw [show (1 : Int) + (i : Int) = (i : Int) + 1 by omega]; exact h2 i hi) (by rw [show (1 : Int) + (k : Int) = (k : Int) + 1 by omega]; exact h3)]
  refine List.map_congr_left fun i _ => ?_
  rw [show (1 : Int) + (i : Int) = (i : Int) + 1 by omega]
/- A run one cell longer than those that are legal is legal just if its last pose fits. -/
theorem legal_next {W H : Int} {us : List Int} {p : Pose} {d : Int} (hW : W ≤ 16) (hH : H ≤ 16) (hd : 0 ≤ d ∧ d ≤ 3) (hf : fitsU W H us p = true) (k : Nat) (hk : k < 16) (h : ∀ i : Nat, i < k → fitsU W H us (shiftP p d ((i : Int) + 1)) = true) :
    legalU W H us (runM p d ((k : Int) + 1)) = fitsU W H us (shiftP p d ((k : Int) + 1)) := by
  rw [Bool.eq_iff_iff, legal_run (us := us) (p := p) hW hH hd ⟨by omega, by omega⟩]
  constructor
  · intro q
    exact q.2 _ (by omega) (by omega)
  · intro q
    refine ⟨hf, fun j j1 j2 => ?_⟩
    by_cases e : j = (k : Int) + 1
    · rw [e]; exact q
    · have := h (j - 1).toNat (by omega)
      rwa [show ((j - 1).toNat : Int) + 1 = j by omega] at this
end Go.Proofs.YtedmfhkdaifegaaGreat.Grid
namespace Go.Proofs.YtedmfhkdaifegaaGreat.Grid
set_option linter.unusedVariables false
set_option linter.unusedSimpArgs false
open Go Go.RowKit Go.Shelf Go.Proofs
attribute [local go_sem] Oper.semAt_some

theorem info_pose3 : (Tryz.prog.info? 42).map (·.size) = some 3 := by kernel_rfl
theorem firstRuns_zero (p : Pose) (dd : Int) : firstRuns p dd 0 = [] := rfl
theorem dirs_le {W H : Int} {us : List Int} {p : Pose} (j : Nat) : (dirsP W H us p j).length ≤ j * 16 := by
  induction j with
  | zero => simp [dirsP]
  | succ j ih =>
    rw [dirs_succ, List.length_append]
    have h : ∀ (f : Nat) (n : Int), (runsP W H us p (j : Int) f n).length ≤ f := by
      intro f
      induction f with
      | zero => intro n; simp [runsP]
      | succ f ih => intro n; unfold runsP; split <;> simp; exact ih _
    have := h 16 1
    unfold dirP
    omega
theorem legal_turn_same {W H : Int} {us : List Int} {p : Pose} (hf : fitsU W H us p = true) : movesP W H us p = dirsP W H us p 4 ++ lastP W H us p := by
  unfold movesP
  rw [if_pos hf]
theorem moves_none {W H : Int} {us : List Int} {p : Pose} (hf : fitsU W H us p = false) : movesP W H us p = [] := by
  unfold movesP
  rw [if_neg (by rw [hf]; simp)]
set_option maxRecDepth 100000 in
set_option maxHeartbeats 8000000 in
theorem rmoves_any (c : Conf) (vb vp vr vs : Value) (w : World) (hA : ConfAt (Old w) c vb vp vr vs w) (l1 : c.blocked.length ≤ 8796093022208) (l2 : c.ports.length ≤ 8796093022208) (l3 : c.robots.length ≤ 5864062014805) (l4 : c.stacks.length ≤ 3518437208880) (l5 : ∀ s ∈ c.stacks, s.2.length ≤ 17592186044416) {G : GS} (hN : newP c = some G) (x y : Int) (d : Bool) :
    Calls Tryz.prog 47 #[.agg #[.int .i64 c.W, .int .i64 c.H, .int .i64 c.height, vb, vp, vr, vs, .int .i64 c.unit, .int .i64 c.accel, .int .i64 c.speed, .int .i64 c.turn, .int .i64 c.hoist, .int .i64 c.queue, .int .i64 c.resend, .int .i64 c.budget, .bool c.back], .agg #[.int .i64 x, .int .i64 y, .bool d]] w fun e w' => ∃ r, e = .returned r ∧ (w'.ownsRow w.heap.size 44 11 r (movesP c.W c.H G.uses ((x, y), d)).length (rowL moveL (movesP c.W c.H G.uses ((x, y), d))) ∧ Below w.heap.size w w') := by
  have hsd := limited_sides (new_some hN).1.1
  have Q0 := two_new w #[.int .i64 c.W, .int .i64 c.H, .int .i64 c.height, vb, vp, vr, vs, .int .i64 c.unit, .int .i64 c.accel, .int .i64 c.speed, .int .i64 c.turn, .int .i64 c.hoist, .int .i64 c.queue, .int .i64 c.resend, .int .i64 c.budget, .bool c.back] #[.int .i64 x, .int .i64 y, .bool d] 42
  obtain ⟨wb, hwb⟩ : ∃ wb, wb = (w.alloc (.cells #[.int .i64 c.W, .int .i64 c.H, .int .i64 c.height, vb, vp, vr, vs, .int .i64 c.unit, .int .i64 c.accel, .int .i64 c.speed, .int .i64 c.turn, .int .i64 c.hoist, .int .i64 c.queue, .int .i64 c.resend, .int .i64 c.budget, .bool c.back] 26)).alloc (.cells #[.int .i64 x, .int .i64 y, .bool d] 42) := ⟨_, rfl⟩
  rw [← hwb] at Q0
  have swb : wb.heap.size = w.heap.size + 2 := by rw [hwb]; simp
  have Bt := Q0.below
  have eA := Q0.a
  have eB := Q0.b
  have cL : Hid (∀ u (b : Below wb.heap.size wb u) (m : Move), Calls Tryz.prog 25 #[.agg #[.int .i64 c.W, .int .i64 c.H, .int .i64 c.height, vb, vp, vr, vs, .int .i64 c.unit, .int .i64 c.accel, .int .i64 c.speed, .int .i64 c.turn, .int .i64 c.hoist, .int .i64 c.queue, .int .i64 c.resend, .int .i64 c.budget, .bool c.back], .agg (moveCs m)] u fun e w' => ∃ r, e = .returned r ∧ (r = .bool (legalU c.W c.H G.uses m) ∧ Below u.heap.size u w')) := fun u b m => rlegal_old c vb vp vr vs w hA l1 l2 l3 l4 l5 hN m u (bcat Bt b (Nat.le_refl _))
  have cF := fitsR_any (Old w) c vb vp vr vs x y d wb (hA.go (fun _ h => h) Bt) (fun g hg => Nat.lt_of_lt_of_le hg Bt.size) (by omega)
  rw [← fits_told hN] at cF
  have zC : Hid (∀ u, Below wb.heap.size wb u → u.heap[w.heap.size]? = some (.cells #[.int .i64 c.W, .int .i64 c.H, .int .i64 c.height, vb, vp, vr, vs, .int .i64 c.unit, .int .i64 c.accel, .int .i64 c.speed, .int .i64 c.turn, .int .i64 c.hoist, .int .i64 c.queue, .int .i64 c.resend, .int .i64 c.budget, .bool c.back] 26 (0, 0))) := fun u hu => (hu.block _ (lt_of_heap eA)).trans eA
  have zP : Hid (∀ u, Below wb.heap.size wb u → u.heap[w.heap.size + 1]? = some (.cells #[.int .i64 x, .int .i64 y, .bool d] 42 (0, 0))) := fun u hu => (hu.block _ (lt_of_heap eB)).trans eB
  have hcC := zC.out wb (Below.refl _ _)
  have hcP := zP.out wb (Below.refl _ _)
  have HW : Hid (c.W ≤ 16 ∧ c.H ≤ 16) := ⟨by omega, by omega⟩
  clear eA eB hA
  cases hf : fitsU c.W c.H G.uses ((x, y), d)
  · rw [hf] at cF
    have HM : Hid (movesP c.W c.H G.uses ((x, y), d) = []) := moves_none hf
    clear hf
    go_enter Tryz.func47, Tryz.ntmps47
    go_upto_region 1 with fail
    rw [← hwb]
    clear hwb
    go_wp2_with (first
      | (refine wpList_load_row rfl 26 (.tmp 2) rfl w.heap.size rfl 26 #[.int .i64 c.W, .int .i64 c.H, .int .i64 c.height, vb, vp, vr, vs, .int .i64 c.unit, .int .i64 c.accel, .int .i64 c.speed, .int .i64 c.turn, .int .i64 c.hoist, .int .i64 c.queue, .int .i64 c.resend, .int .i64 c.budget, .bool c.back] (0, 0) _ hcC Tryz.underlying26 rfl info_conf ?_)
      | (refine wpList_load_row rfl 42 (.tmp 3) rfl (w.heap.size + 1) rfl 42 #[.int .i64 x, .int .i64 y, .bool d] (0, 0) _ hcP Tryz.underlying42 rfl info_pose3 ?_)
      | (go_at_call 37; refine cF.mono ?_; rintro e w1 ⟨r1, rfl, rfl, b1⟩))
    go_ret
    refine ⟨_, rfl, ?_, bcat Bt b1 (Nat.le_refl _)⟩
    rw [HM.out]
    exact ⟨rfl, .inl ⟨rfl, rfl⟩⟩
  · rw [hf] at cF
    have HMV : Hid (movesP c.W c.H G.uses ((x, y), d) = dirsP c.W c.H G.uses ((x, y), d) 4 ++ lastP c.W c.H G.uses ((x, y), d)) := legal_turn_same hf
    have HLN : Hid (∀ (j k : Nat), j ≤ 3 → k < 16 → (∀ i : Nat, i < k → fitsU c.W c.H G.uses (shiftP ((x, y), d) (j : Int) ((i : Int) + 1)) = true) → legalU c.W c.H G.uses (runM ((x, y), d) (j : Int) ((k : Int) + 1)) = fitsU c.W c.H G.uses (shiftP ((x, y), d) (j : Int) ((k : Int) + 1))) := fun j k hj hk h => legal_next HW.out.1 HW.out.2 ⟨by omega, by omega⟩ hf k hk h
    clear hf
    have HLast : Hid (lastP c.W c.H G.uses ((x, y), d) = if legalU c.W c.H G.uses ((2 : Int), (0 : Int), (0 : Int), ((x, y), d), ((x, y), !d), (0 : Int), (0 : Int)) then [((2 : Int), (0 : Int), (0 : Int), ((x, y), d), ((x, y), !d), (0 : Int), (0 : Int))] else []) := rfl
    go_enter Tryz.func47, Tryz.ntmps47
    go_upto_region 1 with fail
    rw [← hwb]
    clear hwb
    go_wp2_with (first
      | (refine wpList_load_row rfl 26 (.tmp 2) rfl w.heap.size rfl 26 #[.int .i64 c.W, .int .i64 c.H, .int .i64 c.height, vb, vp, vr, vs, .int .i64 c.unit, .int .i64 c.accel, .int .i64 c.speed, .int .i64 c.turn, .int .i64 c.hoist, .int .i64 c.queue, .int .i64 c.resend, .int .i64 c.budget, .bool c.back] (0, 0) _ hcC Tryz.underlying26 rfl info_conf ?_)
      | (refine wpList_load_row rfl 42 (.tmp 3) rfl (w.heap.size + 1) rfl 42 #[.int .i64 x, .int .i64 y, .bool d] (0, 0) _ hcP Tryz.underlying42 rfl info_pose3 ?_)
      | (go_at_call 37; refine cF.mono ?_; rintro e w1 ⟨r1, rfl, rfl, b1⟩))
    have own0 : Hid (w1.ownsRow wb.heap.size 44 11 (.slice none 0 0) ((dirsP c.W c.H G.uses ((x, y), d) 0)).length (rowL moveL ((dirsP c.W c.H G.uses ((x, y), d) 0)))) := ⟨rfl, .inl ⟨rfl, rfl⟩⟩
    have HB0 : Hid (Below wb.heap.size wb w1) := b1
    clear hcC hcP cF b1 hsd Q0
    go_loopw [5, 6] (fun v i wq => ∃ j : Nat, j ≤ 4 ∧ i = .int .i64 j ∧ Hid (wq.ownsRow wb.heap.size 44 11 v ((dirsP c.W c.H G.uses ((x, y), d) j)).length (rowL moveL ((dirsP c.W c.H G.uses ((x, y), d) j)))) ∧ Hid (Below wb.heap.size wb wq)) (fun _ i _ => 4 - (intOf i).toNat)
    case atStart => exact ⟨0, Nat.zero_le _, rfl, own0, HB0⟩
    case round =>
      clear own0 HB0
      obtain ⟨j, hj, rfl, HO, HB⟩ := hrel
      by_cases hlt : j < 4
      · have hd : decide ((j : Int) ≤ 3) = true := decide_eq_true (by omega)
        go_wp2_with fail
        have HO1 : Hid (wr.ownsRow wb.heap.size 44 11 u5 ((dirsP c.W c.H G.uses ((x, y), d) j) ++ (firstRuns ((x, y), d) (j : Int) 0)).length (rowL moveL ((dirsP c.W c.H G.uses ((x, y), d) j) ++ (firstRuns ((x, y), d) (j : Int) 0)))) := by
          show wr.ownsRow wb.heap.size 44 11 u5 ((dirsP c.W c.H G.uses ((x, y), d) j) ++ (firstRuns ((x, y), d) (j : Int) 0)).length (rowL moveL ((dirsP c.W c.H G.uses ((x, y), d) j) ++ (firstRuns ((x, y), d) (j : Int) 0)))
          rw [firstRuns_zero, List.append_nil]
          exact HO.out
        have HF1 : Hid (∀ i : Nat, i < 0 → fitsU c.W c.H G.uses (shiftP ((x, y), d) (j : Int) ((i : Int) + 1)) = true) := fun i hi => absurd hi (by omega)
        clear HO hd
        go_loopw [5, 7] (fun v i wq => ∃ k : Nat, k ≤ 16 ∧ i = .int .i64 ((k : Int) + 1) ∧ Hid (wq.ownsRow wb.heap.size 44 11 v ((dirsP c.W c.H G.uses ((x, y), d) j) ++ (firstRuns ((x, y), d) (j : Int) k)).length (rowL moveL ((dirsP c.W c.H G.uses ((x, y), d) j) ++ (firstRuns ((x, y), d) (j : Int) k)))) ∧ Hid (Below wb.heap.size wb wq) ∧ Hid (∀ i : Nat, i < k → fitsU c.W c.H G.uses (shiftP ((x, y), d) (j : Int) ((i : Int) + 1)) = true)) (fun _ i _ => 17 - (intOf i).toNat)
        case atStart => exact ⟨0, Nat.zero_le _, by simp, HO1, HB, HF1⟩
        case round =>
          clear HO1 HB HF1
          obtain ⟨k, hk, rfl, HO, HB, HF⟩ := hrel
          by_cases hk16 : k < 16
          · have hd : decide ((k : Int) + 1 ≤ 16) = true := decide_eq_true (by omega)
            have hll := HLN.out j k (by omega) hk16 HF.out
            have HFS : Hid (firstRuns ((x, y), d) (j : Int) (k + 1) = (firstRuns ((x, y), d) (j : Int) k) ++ [runM ((x, y), d) (j : Int) ((k : Int) + 1)]) := firstRuns_succ _ _ _
            have HDF : Hid (fitsU c.W c.H G.uses (shiftP ((x, y), d) (j : Int) ((k : Int) + 1)) = false → dirP c.W c.H G.uses ((x, y), d) (j : Int) = (firstRuns ((x, y), d) (j : Int) k)) := fun h => dir_first k hk HF.out (Or.inr h)
            have cSh := fun u => shiftS_any x y d (j : Int) ((k : Int) + 1) u
            have HFN : Hid (fitsU c.W c.H G.uses (shiftP ((x, y), d) (j : Int) ((k : Int) + 1)) = true → ∀ i : Nat, i < k + 1 → fitsU c.W c.H G.uses (shiftP ((x, y), d) (j : Int) ((i : Int) + 1)) = true) := fun h i hi => by
              by_cases e : i = k
              · rw [e]; exact h
              · exact HF.out i (by omega)
            have HLn : Hid (((dirsP c.W c.H G.uses ((x, y), d) j) ++ (firstRuns ((x, y), d) (j : Int) k)).length ≤ 1000) := by
              show ((dirsP c.W c.H G.uses ((x, y), d) j) ++ (firstRuns ((x, y), d) (j : Int) k)).length ≤ 1000
              rw [List.length_append, firstRuns_len]
              have := dirs_le (W := c.W) (H := c.H) (us := G.uses) (p := ((x, y), d)) j
              omega
            unfold runM at hll HFS
            generalize hto : shiftP ((x, y), d) (j : Int) ((k : Int) + 1) = tq at *
            obtain ⟨⟨tx, ty⟩, td⟩ := tq
            unfold poseCs at cSh
            simp only at cSh
            clear hto
            obtain ⟨IH, hIH⟩ : ∃ I : World → Prop, I = fun u' => Below wr.heap.size wr u' := ⟨_, rfl⟩
            have HPo : Hid (∀ u, IH u → ∀ jj z, #[Value.int .i64 x, .int .i64 y, .bool d][jj]? = some z → u.cell? ((⟨w.heap.size + 1, 0, none⟩ : Addr).add jj) = some z) := fun u hu => by
              rw [hIH] at hu
              exact row_below (zP.out _ HB.out) hu
            have hS0 : IH wr.drew := by rw [hIH]; exact (Below.refl _ _).drew
            go_upto_region 10 with fail
            go_cut [8] from 18 to 37 (fun r8 wx => ∃ b : Nat, r8 = .pointer (some ⟨b, 0, none⟩) ∧ wx.heap[b]? = some (.cells #[.int .i64 1, .int .i64 j, .int .i64 ((k : Int) + 1), .int .i64 x, .int .i64 y, .bool d, .int .i64 tx, .int .i64 ty, .bool td, .int .i64 0, .int .i64 0] 44 (0, 0)) ∧ Below wr.heap.size wr wx)
            case first =>
              refine start_held (S := IH) 10 rfl (by kernel_rfl) hS0 ?_
              simp only [Array.replicate_succ, Array.replicate_zero, List.push_toArray, List.nil_append, List.cons_append]
              refine tk 0 (by assumption) rfl (v := ?v0) ?y0 ?r0
              case y0 => (intro u hu; go_simp; try rfl)
              simp only [Act.put, pA, pB, pC]
              refine tk 1 (by assumption) rfl (v := ?v1) ?y1 ?r1
              case y1 => (intro u hu; go_simp; try rfl)
              simp only [Act.put, pA, pB, pC]
              refine tk 2 (by assumption) rfl (v := .agg #[.int .i64 x, .int .i64 y, .bool d]) ?y2 ?r2
              case y2 => (intro u hu; exact run_load_op 42 _ rfl ⟨w.heap.size + 1, 0, none⟩ _ rfl (HPo.out u hu) (aggPose u) info_pose3)
              simp only [Act.put, pA, pB, pC]
              refine tk 3 (by assumption) rfl (v := .agg #[.int .i64 x, .int .i64 y, .bool d]) ?y3 ?r3
              case y3 => (intro u hu; exact run_load_op 42 _ rfl ⟨w.heap.size + 1, 0, none⟩ _ rfl (HPo.out u hu) (aggPose u) info_pose3)
              simp only [Act.put, pA, pB, pC]
              refine tk 4 (by assumption) rfl (v := ?v4) ?y4 ?r4
              case y4 => (intro u hu; go_simp; try rfl)
              simp only [Act.put, pA, pB, pC]
              refine tk 5 (by assumption) rfl (v := ?v5) ?y5 ?r5
              case y5 => (intro u hu; go_simp; try rfl)
              simp only [Act.put, pA, pB, pC]
              refine wpAnyH_ready (rs := [6, 8]) (by kernel_rfl) (by simp) (AllReadyH.cons ((nth_eq _ 6).trans rfl) ?_ (AllReadyH.cons ((nth_eq _ 8).trans rfl) ?_ AllReadyH.nil))
              · intro K' hK
                refine call_in hK (by kernel_rfl) 55 #[.agg #[.int .i64 x, .int .i64 y, .bool d], .int .i64 j, .int .i64 ((k : Int) + 1)] (by go_simp) _ (cSh wr.drew) ?_
                rintro v w5 ⟨rfl, b5⟩
                have B5 : Below wr.heap.size wr w5 := ((Below.refl _ _).drew).trans b5
                have hS5 : IH w5 := by rw [hIH]; exact B5
                refine ⟨hS5, ?_⟩
                simp only [Act.put, pA, pB, pC]
                refine tk 7 (by assumption) rfl (v := ?v6) ?y6 ?r6
                case y6 => (intro u hu; go_simp; try rfl)
                simp only [Act.put, pA, pB, pC]
                have B6 := below_new B5 (.cells #[.int .i64 0, .int .i64 0, .int .i64 0, .int .i64 0, .int .i64 0, .bool false, .int .i64 0, .int .i64 0, .bool false, .int .i64 0, .int .i64 0] 44)
                refine value_held 8 rfl (by kernel_rfl) (by kernel_rfl) (.pointer (some ⟨w5.heap.size, 0, none⟩)) (w5.alloc (.cells #[.int .i64 0, .int .i64 0, .int .i64 0, .int .i64 0, .int .i64 0, .bool false, .int .i64 0, .int .i64 0, .bool false, .int .i64 0, .int .i64 0] 44)) (by go_simp; try rfl) (by rw [hIH]; exact B6) ?_
                simp only [Act.put, pA, pB, pC]
                have hz := heap_alloc_new w5 (.cells #[.int .i64 0, .int .i64 0, .int .i64 0, .int .i64 0, .int .i64 0, .bool false, .int .i64 0, .int .i64 0, .bool false, .int .i64 0, .int .i64 0] 44)
                have hsz := B5.size
                have hst : (storeVar 44 ⟨w5.heap.size, 0, none⟩ (.agg #[.int .i64 1, .int .i64 j, .int .i64 ((k : Int) + 1), .int .i64 x, .int .i64 y, .bool d, .int .i64 tx, .int .i64 ty, .bool td, .int .i64 0, .int .i64 0])).run Tryz.prog (w5.alloc (.cells #[.int .i64 0, .int .i64 0, .int .i64 0, .int .i64 0, .int .i64 0, .bool false, .int .i64 0, .int .i64 0, .bool false, .int .i64 0, .int .i64 0] 44)) = .ok () ((w5.alloc (.cells #[.int .i64 0, .int .i64 0, .int .i64 0, .int .i64 0, .int .i64 0, .bool false, .int .i64 0, .int .i64 0, .bool false, .int .i64 0, .int .i64 0] 44)).setRow w5.heap.size #[.int .i64 1, .int .i64 j, .int .i64 ((k : Int) + 1), .int .i64 x, .int .i64 y, .bool d, .int .i64 tx, .int .i64 ty, .bool td, .int .i64 0, .int .i64 0]) := run_storeVar_row _ _ 44 _ #[.int .i64 0, .int .i64 0, .int .i64 0, .int .i64 0, .int .i64 0, .bool false, .int .i64 0, .int .i64 0, .bool false, .int .i64 0, .int .i64 0] _ hz info_move rfl (by simp [Value.oneCell'])
                have B7 := below_row B6 (by omega : wr.heap.size ≤ w5.heap.size) #[.int .i64 1, .int .i64 j, .int .i64 ((k : Int) + 1), .int .i64 x, .int .i64 y, .bool d, .int .i64 tx, .int .i64 ty, .bool td, .int .i64 0, .int .i64 0]
                refine store_held 9 rfl (by kernel_rfl) (by kernel_rfl) _ (run_store_op 44 (.tmp 8) (.tmp 29) rfl w5.heap.size _ rfl rfl hst) (by rw [hIH]; exact B7) ?_
                simp only [Act.put, pA, pB, pC]
                refine done_held (by kernel_rfl) ?_ _
                have m8 := setRow_heap (w5.alloc (.cells #[.int .i64 0, .int .i64 0, .int .i64 0, .int .i64 0, .int .i64 0, .bool false, .int .i64 0, .int .i64 0, .bool false, .int .i64 0, .int .i64 0] 44)) w5.heap.size _ #[.int .i64 1, .int .i64 j, .int .i64 ((k : Int) + 1), .int .i64 x, .int .i64 y, .bool d, .int .i64 tx, .int .i64 ty, .bool td, .int .i64 0, .int .i64 0] _ _ hz
                go_wp2_with fail
                go_meet
                exact ⟨w5.heap.size, rfl, m8, B7⟩
              · intro K' hK
                have B5 := below_new ((Below.refl wr.heap.size wr).drew) (.cells #[.int .i64 0, .int .i64 0, .int .i64 0, .int .i64 0, .int .i64 0, .bool false, .int .i64 0, .int .i64 0, .bool false, .int .i64 0, .int .i64 0] 44)
                have hS5 : IH (wr.drew.alloc (.cells #[.int .i64 0, .int .i64 0, .int .i64 0, .int .i64 0, .int .i64 0, .bool false, .int .i64 0, .int .i64 0, .bool false, .int .i64 0, .int .i64 0] 44)) := by rw [hIH]; exact B5
                refine value_in hK (by kernel_rfl) (.pointer (some ⟨wr.heap.size, 0, none⟩)) (wr.drew.alloc (.cells #[.int .i64 0, .int .i64 0, .int .i64 0, .int .i64 0, .int .i64 0, .bool false, .int .i64 0, .int .i64 0, .bool false, .int .i64 0, .int .i64 0] 44)) (by go_simp; try rfl) hS5 ?_
                simp only [Act.put, pA, pB, pC]
                have hn5 : (wr.drew.alloc (.cells #[.int .i64 0, .int .i64 0, .int .i64 0, .int .i64 0, .int .i64 0, .bool false, .int .i64 0, .int .i64 0, .bool false, .int .i64 0, .int .i64 0] 44)).heap[wr.heap.size]? = some (.cells #[.int .i64 0, .int .i64 0, .int .i64 0, .int .i64 0, .int .i64 0, .bool false, .int .i64 0, .int .i64 0, .bool false, .int .i64 0, .int .i64 0] 44 (0, 0)) := heap_alloc_new _ _
                generalize hU : wr.drew.alloc (.cells #[.int .i64 0, .int .i64 0, .int .i64 0, .int .i64 0, .int .i64 0, .bool false, .int .i64 0, .int .i64 0, .bool false, .int .i64 0, .int .i64 0] 44) = w4 at *
                clear hU
                refine wpAnyH_ready (rs := [6]) (by kernel_rfl) (by simp) (AllReadyH.cons ((nth_eq _ 6).trans rfl) ?_ AllReadyH.nil)
                intro K' hK
                refine call_in hK (by kernel_rfl) 55 #[.agg #[.int .i64 x, .int .i64 y, .bool d], .int .i64 j, .int .i64 ((k : Int) + 1)] (by go_simp) _ (cSh w4) ?_
                rintro v w5 ⟨rfl, b5⟩
                have B6 : Below wr.heap.size wr w5 := bcat B5 b5 (Nat.le_refl _)
                have hS6 : IH w5 := by rw [hIH]; exact B6
                refine ⟨hS6, ?_⟩
                simp only [Act.put, pA, pB, pC]
                refine tk 7 (by assumption) rfl (v := ?v7) ?y7 ?r7
                case y7 => (intro u hu; go_simp; try rfl)
                simp only [Act.put, pA, pB, pC]
                have hz := (b5.block _ (lt_of_heap hn5)).trans hn5
                have hst : (storeVar 44 ⟨wr.heap.size, 0, none⟩ (.agg #[.int .i64 1, .int .i64 j, .int .i64 ((k : Int) + 1), .int .i64 x, .int .i64 y, .bool d, .int .i64 tx, .int .i64 ty, .bool td, .int .i64 0, .int .i64 0])).run Tryz.prog w5 = .ok () (w5.setRow wr.heap.size #[.int .i64 1, .int .i64 j, .int .i64 ((k : Int) + 1), .int .i64 x, .int .i64 y, .bool d, .int .i64 tx, .int .i64 ty, .bool td, .int .i64 0, .int .i64 0]) := run_storeVar_row _ _ 44 _ #[.int .i64 0, .int .i64 0, .int .i64 0, .int .i64 0, .int .i64 0, .bool false, .int .i64 0, .int .i64 0, .bool false, .int .i64 0, .int .i64 0] _ hz info_move rfl (by simp [Value.oneCell'])
                have B7 := below_row B6 (by omega : wr.heap.size ≤ wr.heap.size) #[.int .i64 1, .int .i64 j, .int .i64 ((k : Int) + 1), .int .i64 x, .int .i64 y, .bool d, .int .i64 tx, .int .i64 ty, .bool td, .int .i64 0, .int .i64 0]
                refine store_held 9 rfl (by kernel_rfl) (by kernel_rfl) _ (run_store_op 44 (.tmp 8) (.tmp 29) rfl wr.heap.size _ rfl rfl hst) (by rw [hIH]; exact B7) ?_
                simp only [Act.put, pA, pB, pC]
                refine done_held (by kernel_rfl) ?_ _
                have m8 := setRow_heap w5 wr.heap.size _ #[.int .i64 1, .int .i64 j, .int .i64 ((k : Int) + 1), .int .i64 x, .int .i64 y, .bool d, .int .i64 tx, .int .i64 ty, .bool td, .int .i64 0, .int .i64 0] _ _ hz
                go_wp2_with fail
                go_meet
                exact ⟨wr.heap.size, rfl, m8, B7⟩
            case rest =>
            obtain ⟨mb, rfl, hmb, b6⟩ := hcut
            have HB6 := bcat HB.out b6 (Nat.le_refl _)
            have hC6 := zC.out _ HB6
            have cL6 := cL.out _ HB6 ((1 : Int), (j : Int), (k : Int) + 1, ((x, y), d), ((tx, ty), td), (0 : Int), (0 : Int))
            rw [hll] at cL6
            unfold moveCs at cL6
            simp only at cL6
            clear hIH HPo hS0 hll
            cases hft : fitsU c.W c.H G.uses ((tx, ty), td)
            · rw [hft] at cL6
              have HD2 := HDF.out hft
              go_wp2_with (first
                | (refine wpList_load_row rfl 26 (.tmp 2) rfl w.heap.size rfl 26 #[.int .i64 c.W, .int .i64 c.H, .int .i64 c.height, vb, vp, vr, vs, .int .i64 c.unit, .int .i64 c.accel, .int .i64 c.speed, .int .i64 c.turn, .int .i64 c.hoist, .int .i64 c.queue, .int .i64 c.resend, .int .i64 c.budget, .bool c.back] (0, 0) _ hC6 Tryz.underlying26 rfl info_conf ?_)
                | (refine wpList_load_row rfl 44 (.tmp 8) rfl mb rfl 44 #[.int .i64 1, .int .i64 j, .int .i64 ((k : Int) + 1), .int .i64 x, .int .i64 y, .bool d, .int .i64 tx, .int .i64 ty, .bool td, .int .i64 0, .int .i64 0] (0, 0) _ hmb Tryz.underlying44 rfl info_move ?_)
                | (go_at_call 25; refine cL6.mono ?_; rintro e w7 ⟨r7, rfl, rfl, b7⟩))
              go_roundw
              case rel =>
                refine ⟨j + 1, by omega, by go_num, ?_, bcat HB6 b7 (Nat.le_refl _)⟩
                show w7.ownsRow wb.heap.size 44 11 u5 ((dirsP c.W c.H G.uses ((x, y), d) (j + 1))).length (rowL moveL ((dirsP c.W c.H G.uses ((x, y), d) (j + 1))))
                rw [dirs_succ, HD2]
                exact own_go (own_go HO.out b6) b7
              case measure => simp only [intOf]; omega
            · rw [hft] at cL6
              have HO6a := own_go HO.out b6
              go_wp2_with (first
                | (have X' := HB8; refine wpList_load_row rfl 44 (.tmp 8) rfl mb rfl 44 #[.int .i64 1, .int .i64 j, .int .i64 ((k : Int) + 1), .int .i64 x, .int .i64 y, .bool d, .int .i64 tx, .int .i64 ty, .bool td, .int .i64 0, .int .i64 0] (0, 0) _ hm8 Tryz.underlying44 rfl info_move ?_)
                | (refine wpList_load_row rfl 26 (.tmp 2) rfl w.heap.size rfl 26 #[.int .i64 c.W, .int .i64 c.H, .int .i64 c.height, vb, vp, vr, vs, .int .i64 c.unit, .int .i64 c.accel, .int .i64 c.speed, .int .i64 c.turn, .int .i64 c.hoist, .int .i64 c.queue, .int .i64 c.resend, .int .i64 c.budget, .bool c.back] (0, 0) _ hC6 Tryz.underlying26 rfl info_conf ?_)
                | (refine wpList_load_row rfl 44 (.tmp 8) rfl mb rfl 44 #[.int .i64 1, .int .i64 j, .int .i64 ((k : Int) + 1), .int .i64 x, .int .i64 y, .bool d, .int .i64 tx, .int .i64 ty, .bool td, .int .i64 0, .int .i64 0] (0, 0) _ hmb Tryz.underlying44 rfl info_move ?_)
                | (go_at_call 25; refine cL6.mono ?_; rintro e w8 ⟨r8, rfl, rfl, b8⟩; have HB8 := bcat HB6 b8 (Nat.le_refl _); have hm8 := (b8.block _ (lt_of_heap hmb)).trans hmb; have HO8 := own_go HO6a b8)
                | (at_builtin; have bA := (Below.refl w8.heap.size w8).alloc (Nat.le_refl _) (.cells #[.int .i64 1, .int .i64 j, .int .i64 ((k : Int) + 1), .int .i64 x, .int .i64 y, .bool d, .int .i64 tx, .int .i64 ty, .bool td, .int .i64 0, .int .i64 0] 44); have HO6 := own_go HO8 bA; have L6 := list_one (f := moveL) (S := 11) w8 ((1 : Int), (j : Int), (k : Int) + 1, ((x, y), d), ((tx, ty), td), (0 : Int), (0 : Int)) 44 rfl; have e1 : (((dirsP c.W c.H G.uses ((x, y), d) j) ++ (firstRuns ((x, y), d) (j : Int) k)).length + [(((1 : Int), (j : Int), (k : Int) + 1, ((x, y), d), ((tx, ty), td), (0 : Int), (0 : Int)) : Move)].length) * 88 ≤ 140737488355328 := (by have := HLn.out; simp only [List.length_cons, List.length_nil]; omega); have e2 : ((dirsP c.W c.H G.uses ((x, y), d) j) ++ (firstRuns ((x, y), d) (j : Int) k)).length + [(((1 : Int), (j : Int), (k : Int) + 1, ((x, y), d), ((tx, ty), td), (0 : Int), (0 : Int)) : Move)].length ≤ maxLen := (by have := HLn.out; unfold maxLen; simp only [List.length_cons, List.length_nil]; omega); have e3 := Nat.le_trans HB8.size bA.size; refine wpList_app kindMove rfl (.tmp 34) (.tmp 36) rfl _ _ _ rfl HO6 _ _ [(((1 : Int), (j : Int), (k : Int) + 1, ((x, y), d), ((tx, ty), td), (0 : Int), (0 : Int)) : Move)] rfl L6 e1 e2 e3 ?_; intro v7 w7 own7 g7 at7; have HB7 := below_row2 (bcat HB8 bA (Nat.le_refl _)) (Nat.le_refl _) HO6 g7))
              go_roundw
              case rel =>
                refine ⟨k + 1, by omega, by go_num, ?_, HB7, HFN.out hft⟩
                show w7.ownsRow wb.heap.size 44 11 v7 ((dirsP c.W c.H G.uses ((x, y), d) j) ++ (firstRuns ((x, y), d) (j : Int) (k + 1))).length (rowL moveL ((dirsP c.W c.H G.uses ((x, y), d) j) ++ (firstRuns ((x, y), d) (j : Int) (k + 1))))
                rw [HFS.out, ← List.append_assoc]
                exact own7
              case measure => simp only [intOf]; omega
          · obtain rfl : k = 16 := by omega
            have HD2 : dirP c.W c.H G.uses ((x, y), d) (j : Int) = (firstRuns ((x, y), d) (j : Int) 16) := dir_first 16 (Nat.le_refl _) HF.out (Or.inl rfl)
            go_wp2_with fail
            go_roundw
            case rel =>
              refine ⟨j + 1, by omega, by go_num, ?_, HB⟩
              show wr.ownsRow wb.heap.size 44 11 u5 ((dirsP c.W c.H G.uses ((x, y), d) (j + 1))).length (rowL moveL ((dirsP c.W c.H G.uses ((x, y), d) (j + 1))))
              rw [dirs_succ, HD2]
              exact HO.out
            case measure => simp only [intOf]; omega
      · obtain rfl : j = 4 := by omega
        have hP1 := zP.out _ HB.out
        have p0 : wr.cell? ⟨w.heap.size + 1, 0, none⟩ = some (.int .i64 x) := cell_of hP1 0
        have p1 : wr.cell? ⟨w.heap.size + 1, 1, none⟩ = some (.int .i64 y) := cell_of hP1 1
        have p2 : wr.cell? ⟨w.heap.size + 1, 2, none⟩ = some (.bool d) := cell_of hP1 2
        clear hP1
        obtain ⟨wm, hwm⟩ : ∃ wm, wm = wr.alloc (.cells #[.int .i64 2, .int .i64 0, .int .i64 0, .int .i64 x, .int .i64 y, .bool d, .int .i64 x, .int .i64 y, .bool (!d), .int .i64 0, .int .i64 0] 44) := ⟨_, rfl⟩
        have bm : Below wr.heap.size wr wm := by rw [hwm]; exact below_new (Below.refl _ _) _
        have em : wm.heap[wr.heap.size]? = some (.cells #[.int .i64 2, .int .i64 0, .int .i64 0, .int .i64 x, .int .i64 y, .bool d, .int .i64 x, .int .i64 y, .bool (!d), .int .i64 0, .int .i64 0] 44 (0, 0)) := by rw [hwm]; exact heap_alloc_new wr _
        have HBm := bcat HB.out bm (Nat.le_refl _)
        have hCm := zC.out _ HBm
        have cLm := cL.out _ HBm ((2 : Int), (0 : Int), (0 : Int), ((x, y), d), ((x, y), !d), (0 : Int), (0 : Int))
        have HOm := own_go HO.out bm
        have HLn : Hid (((dirsP c.W c.H G.uses ((x, y), d) 4)).length ≤ 1000) := by
          have := dirs_le (W := c.W) (H := c.H) (us := G.uses) (p := ((x, y), d)) 4
          show ((dirsP c.W c.H G.uses ((x, y), d) 4)).length ≤ 1000
          omega
        obtain ⟨bz, hbz⟩ : ∃ bz, wr.heap.size = bz := ⟨_, rfl⟩
        have HBZ : Hid (wr.heap.size = bz) := hbz
        rw [hbz] at em
        go_upto_region 14 with fail
        rw [← hwm]
        clear hwm p0 p1 p2
        try rw [hbz]
        clear hbz
        cases hlg : legalU c.W c.H G.uses ((2 : Int), (0 : Int), (0 : Int), ((x, y), d), ((x, y), !d), (0 : Int), (0 : Int))
        · rw [hlg] at cLm
          unfold moveCs at cLm
          simp only at cLm
          go_wp2_with (first
            | (refine wpList_load_row rfl 26 (.tmp 2) rfl w.heap.size rfl 26 #[.int .i64 c.W, .int .i64 c.H, .int .i64 c.height, vb, vp, vr, vs, .int .i64 c.unit, .int .i64 c.accel, .int .i64 c.speed, .int .i64 c.turn, .int .i64 c.hoist, .int .i64 c.queue, .int .i64 c.resend, .int .i64 c.budget, .bool c.back] (0, 0) _ hCm Tryz.underlying26 rfl info_conf ?_)
            | (refine wpList_load_row rfl 44 (.tmp 9) rfl bz rfl 44 #[.int .i64 2, .int .i64 0, .int .i64 0, .int .i64 x, .int .i64 y, .bool d, .int .i64 x, .int .i64 y, .bool (!d), .int .i64 0, .int .i64 0] (0, 0) _ em Tryz.underlying44 rfl info_move ?_)
            | (go_at_call 25; refine cLm.mono ?_; rintro e w8 ⟨r8, rfl, rfl, b8⟩))
          go_ret
          refine ⟨_, rfl, ?_, bcat Bt (bcat HBm b8 (Nat.le_refl _)) (Nat.le_refl _)⟩
          rw [HMV.out, HLast.out, if_neg (by rw [hlg]; decide), List.append_nil]
          exact own_lower (own_go HOm b8) Bt.size
        · rw [hlg] at cLm
          unfold moveCs at cLm
          simp only at cLm
          go_wp2_with (first
            | (have X' := HB8; refine wpList_load_row rfl 44 (.tmp 9) rfl bz rfl 44 #[.int .i64 2, .int .i64 0, .int .i64 0, .int .i64 x, .int .i64 y, .bool d, .int .i64 x, .int .i64 y, .bool (!d), .int .i64 0, .int .i64 0] (0, 0) _ hm8 Tryz.underlying44 rfl info_move ?_)
            | (refine wpList_load_row rfl 26 (.tmp 2) rfl w.heap.size rfl 26 #[.int .i64 c.W, .int .i64 c.H, .int .i64 c.height, vb, vp, vr, vs, .int .i64 c.unit, .int .i64 c.accel, .int .i64 c.speed, .int .i64 c.turn, .int .i64 c.hoist, .int .i64 c.queue, .int .i64 c.resend, .int .i64 c.budget, .bool c.back] (0, 0) _ hCm Tryz.underlying26 rfl info_conf ?_)
            | (refine wpList_load_row rfl 44 (.tmp 9) rfl bz rfl 44 #[.int .i64 2, .int .i64 0, .int .i64 0, .int .i64 x, .int .i64 y, .bool d, .int .i64 x, .int .i64 y, .bool (!d), .int .i64 0, .int .i64 0] (0, 0) _ em Tryz.underlying44 rfl info_move ?_)
            | (go_at_call 25; refine cLm.mono ?_; rintro e w8 ⟨r8, rfl, rfl, b8⟩; have HB8 := bcat HBm b8 (Nat.le_refl _); have hm8 := (b8.block _ (lt_of_heap em)).trans em; have HO8 := own_go HOm b8)
            | (at_builtin; have bA := (Below.refl w8.heap.size w8).alloc (Nat.le_refl _) (.cells #[.int .i64 2, .int .i64 0, .int .i64 0, .int .i64 x, .int .i64 y, .bool d, .int .i64 x, .int .i64 y, .bool (!d), .int .i64 0, .int .i64 0] 44); have HO6 := own_go HO8 bA; have L6 := list_one (f := moveL) (S := 11) w8 ((2 : Int), (0 : Int), (0 : Int), ((x, y), d), ((x, y), !d), (0 : Int), (0 : Int)) 44 rfl; have e1 : (((dirsP c.W c.H G.uses ((x, y), d) 4)).length + [(((2 : Int), (0 : Int), (0 : Int), ((x, y), d), ((x, y), !d), (0 : Int), (0 : Int)) : Move)].length) * 88 ≤ 140737488355328 := (by have := HLn.out; simp only [List.length_cons, List.length_nil]; omega); have e2 : ((dirsP c.W c.H G.uses ((x, y), d) 4)).length + [(((2 : Int), (0 : Int), (0 : Int), ((x, y), d), ((x, y), !d), (0 : Int), (0 : Int)) : Move)].length ≤ maxLen := (by have := HLn.out; unfold maxLen; simp only [List.length_cons, List.length_nil]; omega); have e3 := Nat.le_trans HB8.size bA.size; refine wpList_app kindMove rfl (.tmp 49) (.tmp 51) rfl _ _ _ rfl HO6 _ _ [(((2 : Int), (0 : Int), (0 : Int), ((x, y), d), ((x, y), !d), (0 : Int), (0 : Int)) : Move)] rfl L6 e1 e2 e3 ?_; intro v7 w7 own7 g7 at7; have HB7 := below_row2 (bcat HB8 bA (Nat.le_refl _)) (Nat.le_refl _) HO6 g7))
          go_ret
          refine ⟨_, rfl, ?_, bcat Bt HB7 (Nat.le_refl _)⟩
          rw [HMV.out, HLast.out, if_pos hlg]
          exact own_lower own7 Bt.size
end Go.Proofs.YtedmfhkdaifegaaGreat.Grid
namespace Go.Proofs.YtedmfhkdaifegaaGreat.Grid
set_option linter.unusedVariables false
set_option linter.unusedSimpArgs false
open Go Go.RowKit Go.Shelf Go.Proofs

theorem shift_none {p : Pose} {d : Int} (h1 : 0 ≤ p.1.1) (h2 : p.1.1 < 16) (h3 : 0 ≤ p.1.2) (h4 : p.1.2 < 16) : shiftP p d 0 = p := by
  rw [shift_small (by omega) (by omega) (by omega) (by omega) (by omega) (by omega)]
  simp
theorem shift_next {p : Pose} {d k : Int} (h1 : 0 ≤ p.1.1) (h2 : p.1.1 < 16) (h3 : 0 ≤ p.1.2) (h4 : p.1.2 < 16) (hk : 0 ≤ k ∧ k + 1 ≤ 16) (hq : 0 ≤ (shiftP p d k).1.1 ∧ (shiftP p d k).1.1 < 16 ∧ 0 ≤ (shiftP p d k).1.2 ∧ (shiftP p d k).1.2 < 16) : shiftP (shiftP p d k) d 1 = shiftP p d (k + 1) := by
  rw [shift_small (p := shiftP p d k) (by omega) (by omega) (by omega) (by omega) (by omega) (by omega), shift_small (k := k + 1) (by omega) (by omega) (by omega) (by omega) (by omega) (by omega), shift_small (k := k) (by omega) (by omega) (by omega) (by omega) (by omega) (by omega)]
  simp only [Int.mul_add, Int.mul_one, Int.add_assoc]
def numN (W : Int) (c : Cell) : Nat := (c.2 * W + c.1).toNat
/- What the first i steps sweep. -/
def StepSet (W : Int) (p : Pose) (d : Int) (i k : Nat) : Prop := ∃ j : Nat, j < i ∧ ∃ c ∈ boxOf (shiftP p d (j : Int)) (shiftP p d ((j : Int) + 1)), numN W c = k
theorem steps_box {W H : Int} {us : List Int} {p : Pose} {d : Int} (hW : W ≤ 16) (hH : H ≤ 16) (hd : 0 ≤ d ∧ d ≤ 3) {n : Nat} (hn : 1 ≤ n ∧ n ≤ 16) (hf : ∀ j : Nat, j ≤ n → fitsU W H us (shiftP p d (j : Int)) = true) (hp : fitsU W H us p = true) (c : Cell) :
    c ∈ boxOf p (shiftP p d (n : Int)) ↔ ∃ j : Nat, j < n ∧ c ∈ boxOf (shiftP p d (j : Int)) (shiftP p d ((j : Int) + 1)) := by
  obtain ⟨p1, p2, p3, p4⟩ := fits_near hW hH hp
  have key : ∀ j : Nat, j < n → (c ∈ boxOf (shiftP p d (j : Int)) (shiftP p d ((j : Int) + 1)) ↔ (c = (shiftP p d (j : Int)).1 ∨ c = second (shiftP p d (j : Int))) ∨ (c = (shiftP p d ((j : Int) + 1)).1 ∨ c = second (shiftP p d ((j : Int) + 1)))) := by
    intro j hj
    have q := fits_near hW hH (hf j (by omega))
    have e := shift_next (d := d) p1 p2 p3 p4 (k := (j : Int)) ⟨by omega, by omega⟩ q
    have e0 := shift_none (p := shiftP p d (j : Int)) (d := d) q.1 q.2.1 q.2.2.1 q.2.2.2
    have := box_mem (p := shiftP p d (j : Int)) (d := d) (n := 1) q.1 q.2.1 q.2.2.1 q.2.2.2 hd ⟨by omega, by omega⟩ c
    rw [e] at this
    rw [this]
    constructor
    · rintro ⟨k, k1, k2, h⟩
      rcases (show k = 0 ∨ k = 1 by omega) with rfl | rfl
      · rw [e0] at h; exact Or.inl h
      · rw [e] at h; exact Or.inr h
    · rintro (h | h)
      · exact ⟨0, by omega, by omega, by rw [e0]; exact h⟩
      · exact ⟨1, by omega, by omega, by rw [e]; exact h⟩
  rw [box_mem p1 p2 p3 p4 hd ⟨by omega, by omega⟩ c]
  constructor
  · rintro ⟨k, k1, k2, h⟩
    obtain ⟨kn, rfl⟩ := Int.eq_ofNat_of_zero_le k1
    by_cases e : kn < n
    · exact ⟨kn, e, (key kn e).2 (Or.inl h)⟩
    · refine ⟨n - 1, by omega, (key (n - 1) (by omega)).2 (Or.inr ?_)⟩
      rw [show ((n - 1 : Nat) : Int) + 1 = (kn : Int) by omega]
      exact h
  · rintro ⟨j, hj, h⟩
    rcases (key j hj).1 h with h | h
    · exact ⟨j, by omega, by omega, h⟩
    · exact ⟨(j : Int) + 1, by omega, by omega, h⟩
theorem steps_all {W H : Int} {us : List Int} {p : Pose} {d : Int} (hW : W ≤ 16) (hH : H ≤ 16) (hd : 0 ≤ d ∧ d ≤ 3) {n : Nat} (hn : 1 ≤ n ∧ n ≤ 16) (hf : ∀ j : Nat, j ≤ n → fitsU W H us (shiftP p d (j : Int)) = true) (hp : fitsU W H us p = true) (k : Nat) :
    StepSet W p d n k ↔ ∃ c ∈ boxOf p (shiftP p d (n : Int)), numN W c = k := by
  unfold StepSet
  constructor
  · rintro ⟨j, hj, c, hc, e⟩
    exact ⟨c, (steps_box hW hH hd hn hf hp c).2 ⟨j, hj, hc⟩, e⟩
  · rintro ⟨c, hc, e⟩
    obtain ⟨j, hj, h⟩ := (steps_box hW hH hd hn hf hp c).1 hc
    exact ⟨j, hj, c, h, e⟩
theorem step_none (W : Int) (p : Pose) (d : Int) (k : Nat) : ¬ StepSet W p d 0 k := by
  rintro ⟨j, hj, _⟩
  omega
theorem step_succ (W : Int) (p : Pose) (d : Int) (i k : Nat) : StepSet W p d (i + 1) k ↔ StepSet W p d i k ∨ ∃ c ∈ boxOf (shiftP p d (i : Int)) (shiftP p d ((i : Int) + 1)), numN W c = k := by
  unfold StepSet
  constructor
  · rintro ⟨j, hj, h⟩
    by_cases e : j = i
    · rw [e] at h; exact Or.inr h
    · exact Or.inl ⟨j, by omega, h⟩
  · rintro (⟨j, hj, h⟩ | h)
    · exact ⟨j, by omega, h⟩
    · exact ⟨i, by omega, h⟩
/- The numbers of a box's cells rise. -/
theorem row_rises (W x0 y : Int) (m : Nat) : (row x0 y m).Pairwise (fun a b => a.2 * W + a.1 < b.2 * W + b.1) := by
  unfold row
  rw [List.pairwise_map]
  refine List.Pairwise.imp ?_ List.pairwise_lt_range
  intro a b h
  simp only
  omega
theorem rows_rise {W x0 y0 : Int} {m : Nat} (h0 : 0 ≤ x0) (h1 : x0 + m ≤ W) : ∀ h : Nat, (rows x0 y0 m h).Pairwise (fun a b => a.2 * W + a.1 < b.2 * W + b.1)
  | 0 => by simp [rows]
  | h + 1 => by
    rw [rows_succ, List.pairwise_append]
    refine ⟨rows_rise h0 h1 h, row_rises W x0 _ m, fun a ha b hb => ?_⟩
    unfold rows at ha
    rw [List.mem_flatMap] at ha
    obtain ⟨k, hk, ha⟩ := ha
    unfold row at ha hb
    rw [List.mem_map] at ha hb
    obtain ⟨i, hi, rfl⟩ := ha
    obtain ⟨j, hj, rfl⟩ := hb
    rw [List.mem_range] at hk hi hj
    simp only
    have e : (y0 + (k : Int) + 1) * W ≤ (y0 + (h : Int)) * W := Int.mul_le_mul_of_nonneg_right (by omega) (by omega)
    rw [Int.add_mul (y0 + (k : Int)) 1 W, Int.one_mul] at e
    omega
theorem box_rises {W H : Int} {a b : Pose} (hin : ∀ c ∈ boxOf a b, In W H c) (hne : (spanP a b).1.1 ≤ (spanP a b).2.1 ∧ (spanP a b).1.2 ≤ (spanP a b).2.2) : (boxOf a b).Pairwise (fun c e => c.2 * W + c.1 < e.2 * W + e.1) := by
  have c1 := hin ((spanP a b).1.1, (spanP a b).1.2) (by unfold boxOf; rw [mem_boxList]; simp only; omega)
  have c2 := hin ((spanP a b).2.1, (spanP a b).2.2) (by unfold boxOf; rw [mem_boxList]; simp only; omega)
  unfold In at c1 c2
  simp only at c1 c2
  unfold boxOf boxList
  exact rows_rise (by omega) (by omega) _
theorem num_grid {W H : Int} {c : Cell} (hW : W ≤ 16) (hH : H ≤ 16) (h : In W H c) : number W H c = (numN W c : Int) ∧ numN W c < 256 ∧ 0 ≤ c.2 * W + c.1 := by
  have q := num_lt h
  obtain ⟨a, b, e, f⟩ := h
  have e0 : 0 ≤ c.2 * W := Int.mul_nonneg e (by omega)
  have e1 : W * H ≤ 16 * 16 := by
    have i1 : W * H ≤ 16 * H := Int.mul_le_mul_of_nonneg_right hW (by omega)
    omega
  refine ⟨?_, ?_, by omega⟩
  · unfold number numN
    rw [if_pos ⟨a, b, e, f⟩]
    omega
  · unfold numN
    omega
/- Two lists without doubles that have the same items are as long. -/
theorem len_le_of_sub {α : Type} [BEq α] [LawfulBEq α] : ∀ (l m : List α), l.Nodup → (∀ x ∈ l, x ∈ m) → l.length ≤ m.length
  | [], m, _, _ => Nat.zero_le _
  | x :: l, m, hn, hs => by
    have h1 := List.nodup_cons.1 hn
    have hx := hs x (by simp)
    have := len_le_of_sub l (m.erase x) h1.2 (fun y hy => (List.mem_erase_of_ne (fun (e : y = x) => h1.1 (by rw [← e]; exact hy))).2 (hs y (by simp [hy])))
    rw [List.length_erase_of_mem hx] at this
    have hp : 0 < m.length := List.length_pos_of_mem hx
    simp only [List.length_cons]
    omega
def countB (bs : List Bool) (i : Nat) : Nat := ((List.range i).filter (fun k => bs.getD k false)).length
theorem countB_succ (bs : List Bool) (i : Nat) : countB bs (i + 1) = countB bs i + if bs.getD i false = true then 1 else 0 := by
  unfold countB
  rw [List.range_succ, List.filter_append, List.length_append]
  congr 1
  by_cases h : bs.getD i false = true
  · rw [if_pos h, List.filter_cons_of_pos (p := fun k => bs.getD k false) h]; rfl
  · rw [if_neg h, List.filter_cons_of_neg (p := fun k => bs.getD k false) h]; rfl
theorem countB_le (bs : List Bool) (i : Nat) : countB bs i ≤ i := by
  unfold countB
  exact Nat.le_trans (List.length_filter_le _ _) (by simp)
theorem count_all {W : Int} {l : List Cell} {bs : List Bool} (hr : l.Pairwise (fun c e => c.2 * W + c.1 < e.2 * W + e.1)) (h0 : ∀ c ∈ l, 0 ≤ c.2 * W + c.1 ∧ numN W c < 256) (hm : ∀ k, k < 256 → (bs.getD k false = true ↔ ∃ c ∈ l, numN W c = k)) : countB bs 256 = l.length := by
  have hd : (l.map (numN W)).Nodup := by
    unfold List.Nodup
    rw [List.pairwise_map]
    refine List.Pairwise.imp_of_mem ?_ hr
    intro a b ha hb h e
    have q1 := h0 a ha
    have q2 := h0 b hb
    unfold numN at e
    omega
  have hd2 : ((List.range 256).filter (fun k => bs.getD k false)).Nodup := List.Pairwise.filter _ List.nodup_range
  have hs : ∀ x, x ∈ l.map (numN W) ↔ x ∈ (List.range 256).filter (fun k => bs.getD k false) := by
    intro x
    rw [List.mem_map, List.mem_filter, List.mem_range]
    constructor
    · rintro ⟨c, hc, rfl⟩
      exact ⟨(h0 c hc).2, (hm _ (h0 c hc).2).2 ⟨c, hc, rfl⟩⟩
    · rintro ⟨h1, h2⟩
      obtain ⟨c, hc, e⟩ := (hm x h1).1 h2
      exact ⟨c, hc, e⟩
  have a := len_le_of_sub _ _ hd fun x hx => (hs x).1 hx
  have b := len_le_of_sub _ _ hd2 fun x hx => (hs x).2 hx
  rw [List.length_map] at a b
  unfold countB
  omega
end Go.Proofs.YtedmfhkdaifegaaGreat.Grid
