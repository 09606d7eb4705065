/-
  The chapter's own answer, further: the stack cells in order.
  The runs of a pose, in plain words: those ahead of the first one that is not legal.
  The chapter's own answer, further: the moves of a pose.
  A run of many cells, in plain words: as many runs of one; the numbers of the cells that are swept rise.
-/
import Derived.Test.YtedhoghleelhfaaGreatQRgK
import Derived.Test.YtedhoghleelhfaaGreatQGridRef6
import Derived.Test.YtedhoghleelhfaaGreatQRgD
import Derived.Deep.DeepCutAuto
import Derived.Deep.CutRange
namespace Go.Proofs.YtedhoghleelhfaaGreat.Grid
set_option linter.unusedVariables false
set_option linter.unusedSimpArgs false
open Go Go.RowKit Go.Shelf Go.Proofs
attribute [local go_sem] Oper.semAt_some

end Go.Proofs.YtedhoghleelhfaaGreat.Grid
namespace Go.Proofs.YtedhoghleelhfaaGreat.Grid
set_option linter.unusedVariables false
set_option linter.unusedSimpArgs false
open Go Go.RowKit Go.Shelf Go.Proofs

/- The first k runs in a direction. -/
def firstRuns (p : Pose) (d : Int) (k : Nat) : List Move := (List.range k).map fun (i : Nat) => runM p d ((i : Int) + 1)
theorem firstRuns_succ (p : Pose) (d : Int) (k : Nat) : firstRuns p d (k + 1) = firstRuns p d k ++ [runM p d ((k : Int) + 1)] := by
  unfold firstRuns
  rw [List.range_succ, List.map_append]
  rfl
theorem firstRuns_len (p : Pose) (d : Int) (k : Nat) : (firstRuns p d k).length = k := by
  unfold firstRuns
  simp
/- Where the runs from n0 on end. -/
theorem runs_first {W H : Int} {us : List Int} {p : Pose} {d : Int} : ∀ (f : Nat) (n0 : Int) (k : Nat), k ≤ f → (∀ i : Nat, i < k → fitsU W H us (shiftP p d (n0 + i)) = true) → (k = f ∨ fitsU W H us (shiftP p d (n0 + k)) = false) →
    runsP W H us p d f n0 = (List.range k).map fun (i : Nat) => runM p d (n0 + i)
  | 0, n0, k, h1, h2, h3 => by
    obtain rfl : k = 0 := by omega
    rfl
  | f + 1, n0, 0, h1, h2, h3 => by
    unfold runsP
    rcases h3 with h3 | h3
    · omega
    · rw [show n0 + ((0 : Nat) : Int) = n0 by simp] at h3
      rw [if_neg (by rw [h3]; simp)]
      rfl
  | f + 1, n0, k + 1, h1, h2, h3 => by
    unfold runsP
    have h0 := h2 0 (by omega)
    rw [show n0 + ((0 : Nat) : Int) = n0 by simp] at h0
    rw [if_pos h0, runs_first f (n0 + 1) k (by omega) (fun i hi => by
      have := h2 (i + 1) (by omega)
      rwa [show n0 + ((i + 1 : Nat) : Int) = n0 + 1 + (i : Int) by omega] at this) (by
      rcases h3 with h3 | h3
      · exact Or.inl (by omega)
      · exact Or.inr (by rwa [show n0 + ((k + 1 : Nat) : Int) = n0 + 1 + (k : Int) by omega] at h3))]
    rw [List.range_succ_eq_map, List.map_cons, List.map_map]
    congr 1
    · rw [show n0 + ((0 : Nat) : Int) = n0 by simp]
    · refine List.map_congr_left fun i _ => ?_
      show runM p d (n0 + 1 + (i : Int)) = runM p d (n0 + ((i + 1 : Nat) : Int))
      rw [show n0 + 1 + (i : Int) = n0 + ((i + 1 : Nat) : Int) by omega]
theorem dir_first {W H : Int} {us : List Int} {p : Pose} {d : Int} (k : Nat) (h1 : k ≤ 16) (h2 : ∀ i : Nat, i < k → fitsU W H us (shiftP p d ((i : Int) + 1)) = true) (h3 : k = 16 ∨ fitsU W H us (shiftP p d ((k : Int) + 1)) = false) : dirP W H us p d = firstRuns p d k := by
  unfold dirP firstRuns
  rw [runs_first 16 1 k h1 (fun i hi => by rw [show (1 : Int) + (i : Int) = (i : Int) + 1 by omega]; exact h2 i hi) (by rw [show (1 : Int) + (k : Int) = (k : Int) + 1 by omega]; exact h3)]
  refine List.map_congr_left fun i _ => ?_
  rw [show (1 : Int) + (i : Int) = (i : Int) + 1 by omega]
/- A run one cell longer than those that are legal is legal just if its last pose fits. -/
theorem legal_next {W H : Int} {us : List Int} {p : Pose} {d : Int} (hW : W ≤ 16) (hH : H ≤ 16) (hd : 0 ≤ d ∧ d ≤ 3) (hf : fitsU W H us p = true) (k : Nat) (hk : k < 16) (h : ∀ i : Nat, i < k → fitsU W H us (shiftP p d ((i : Int) + 1)) = true) :
    legalU W H us (runM p d ((k : Int) + 1)) = fitsU W H us (shiftP p d ((k : Int) + 1)) := by
  rw [Bool.eq_iff_iff, legal_run (us := us) (p := p) hW hH hd ⟨by omega, by omega⟩]
  constructor
  · intro q
    exact q.2 _ (by omega) (by omega)
  · intro q
    refine ⟨hf, fun j j1 j2 => ?_⟩
    by_cases e : j = (k : Int) + 1
    · rw [e]; exact q
    · have := h (j - 1).toNat (by omega)
      rwa [show ((j - 1).toNat : Int) + 1 = j by omega] at this
end Go.Proofs.YtedhoghleelhfaaGreat.Grid
namespace Go.Proofs.YtedhoghleelhfaaGreat.Grid
set_option linter.unusedVariables false
set_option linter.unusedSimpArgs false
open Go Go.RowKit Go.Shelf Go.Proofs
attribute [local go_sem] Oper.semAt_some

theorem info_pose3 : (Tryz.prog.info? 42).map (·.size) = some 3 := by kernel_rfl
theorem firstRuns_zero (p : Pose) (dd : Int) : firstRuns p dd 0 = [] := rfl
theorem dirs_le {W H : Int} {us : List Int} {p : Pose} (j : Nat) : (dirsP W H us p j).length ≤ j * 16 := by
  induction j with
  | zero => simp [dirsP]
  | succ j ih =>
    rw [dirs_succ, List.length_append]
    have h : ∀ (f : Nat) (n : Int), (runsP W H us p (j : Int) f n).length ≤ f := by
      intro f
      induction f with
      | zero => intro n; simp [runsP]
      | succ f ih => intro n; unfold runsP; split <;> simp; exact ih _
    have := h 16 1
    unfold dirP
    omega
theorem legal_turn_same {W H : Int} {us : List Int} {p : Pose} (hf : fitsU W H us p = true) : movesP W H us p = dirsP W H us p 4 ++ lastP W H us p := by
  unfold movesP
  rw [if_pos hf]
theorem moves_none {W H : Int} {us : List Int} {p : Pose} (hf : fitsU W H us p = false) : movesP W H us p = [] := by
  unfold movesP
  rw [if_neg (by rw [hf]; simp)]
set_option maxRecDepth 100000 in
set_option maxHeartbeats 8000000 in
theorem rmoves_any (c : Conf) (vb vp vr vs : Value) (w : World) (hA : ConfAt (Old w) c vb vp vr vs w) (l1 : c.blocked.length ≤ 8796093022208) (l2 : c.ports.length ≤ 8796093022208) (l3 : c.robots.length ≤ 5864062014805) (l4 : c.stacks.length ≤ 3518437208880) (l5 : ∀ s ∈ c.stacks, s.2.length ≤ 17592186044416) {G : GS} (hN : newP c = some G) (x y : Int) (d : Bool) :
    Calls Tryz.prog 41 #[.agg #[.int .i64 c.W, .int .i64 c.H, .int .i64 c.height, vb, vp, vr, vs, .int .i64 c.unit, .int .i64 c.accel, .int .i64 c.speed, .int .i64 c.turn, .int .i64 c.hoist, .int .i64 c.queue, .int .i64 c.resend, .int .i64 c.budget, .bool c.back], .agg #[.int .i64 x, .int .i64 y, .bool d]] w fun e w' => ∃ r, e = .returned r ∧ (w'.ownsRow w.heap.size 44 11 r (movesP c.W c.H G.uses ((x, y), d)).length (rowL moveL (movesP c.W c.H G.uses ((x, y), d))) ∧ Below w.heap.size w w') := by
  have hsd := limited_sides (new_some hN).1.1
  have Q0 := two_new w #[.int .i64 c.W, .int .i64 c.H, .int .i64 c.height, vb, vp, vr, vs, .int .i64 c.unit, .int .i64 c.accel, .int .i64 c.speed, .int .i64 c.turn, .int .i64 c.hoist, .int .i64 c.queue, .int .i64 c.resend, .int .i64 c.budget, .bool c.back] #[.int .i64 x, .int .i64 y, .bool d] 42
  obtain ⟨wb, hwb⟩ : ∃ wb, wb = (w.alloc (.cells #[.int .i64 c.W, .int .i64 c.H, .int .i64 c.height, vb, vp, vr, vs, .int .i64 c.unit, .int .i64 c.accel, .int .i64 c.speed, .int .i64 c.turn, .int .i64 c.hoist, .int .i64 c.queue, .int .i64 c.resend, .int .i64 c.budget, .bool c.back] 26)).alloc (.cells #[.int .i64 x, .int .i64 y, .bool d] 42) := ⟨_, rfl⟩
  rw [← hwb] at Q0
  have swb : wb.heap.size = w.heap.size + 2 := by rw [hwb]; simp
  have Bt := Q0.below
  have eA := Q0.a
  have eB := Q0.b
  have cL : Hid (∀ u (b : Below wb.heap.size wb u) (m : Move), Calls Tryz.prog 63 #[.agg #[.int .i64 c.W, .int .i64 c.H, .int .i64 c.height, vb, vp, vr, vs, .int .i64 c.unit, .int .i64 c.accel, .int .i64 c.speed, .int .i64 c.turn, .int .i64 c.hoist, .int .i64 c.queue, .int .i64 c.resend, .int .i64 c.budget, .bool c.back], .agg (moveCs m)] u fun e w' => ∃ r, e = .returned r ∧ (r = .bool (legalU c.W c.H G.uses m) ∧ Below u.heap.size u w')) := fun u b m => rlegal_old c vb vp vr vs w hA l1 l2 l3 l4 l5 hN m u (bcat Bt b (Nat.le_refl _))
  have cF := fitsR_any (Old w) c vb vp vr vs x y d wb (hA.go (fun _ h => h) Bt) (fun g hg => Nat.lt_of_lt_of_le hg Bt.size) (by omega)
  rw [← fits_told hN] at cF
  have zC : Hid (∀ u, Below wb.heap.size wb u → u.heap[w.heap.size]? = some (.cells #[.int .i64 c.W, .int .i64 c.H, .int .i64 c.height, vb, vp, vr, vs, .int .i64 c.unit, .int .i64 c.accel, .int .i64 c.speed, .int .i64 c.turn, .int .i64 c.hoist, .int .i64 c.queue, .int .i64 c.resend, .int .i64 c.budget, .bool c.back] 26 (0, 0))) := fun u hu => (hu.block _ (lt_of_heap eA)).trans eA
  have zP : Hid (∀ u, Below wb.heap.size wb u → u.heap[w.heap.size + 1]? = some (.cells #[.int .i64 x, .int .i64 y, .bool d] 42 (0, 0))) := fun u hu => (hu.block _ (lt_of_heap eB)).trans eB
  have hcC := zC.out wb (Below.refl _ _)
  have hcP := zP.out wb (Below.refl _ _)
  have HW : Hid (c.W ≤ 16 ∧ c.H ≤ 16) := ⟨by omega, by omega⟩
  clear eA eB hA
  cases hf : fitsU c.W c.H G.uses ((x, y), d)
  · rw [hf] at cF
    have HM : Hid (movesP c.W c.H G.uses ((x, y), d) = []) := moves_none hf
    clear hf
    go_enter Tryz.func41, Tryz.ntmps41
    go_upto_region 1 with fail
    rw [← hwb]
    clear hwb
    go_wp2_with (first
      | (refine wpList_load_row rfl 26 (.tmp 2) rfl w.heap.size rfl 26 #[.int .i64 c.W, .int .i64 c.H, .int .i64 c.height, vb, vp, vr, vs, .int .i64 c.unit, .int .i64 c.accel, .int .i64 c.speed, .int .i64 c.turn, .int .i64 c.hoist, .int .i64 c.queue, .int .i64 c.resend, .int .i64 c.budget, .bool c.back] (0, 0) _ hcC Tryz.underlying26 rfl info_conf ?_)
      | (refine wpList_load_row rfl 42 (.tmp 3) rfl (w.heap.size + 1) rfl 42 #[.int .i64 x, .int .i64 y, .bool d] (0, 0) _ hcP Tryz.underlying42 rfl info_pose3 ?_)
      | (go_at_call 22; refine cF.mono ?_; rintro e w1 ⟨r1, rfl, rfl, b1⟩))
    go_ret
    refine ⟨_, rfl, ?_, bcat Bt b1 (Nat.le_refl _)⟩
    rw [HM.out]
    exact ⟨rfl, .inl ⟨rfl, rfl⟩⟩
  · rw [hf] at cF
    have HMV : Hid (movesP c.W c.H G.uses ((x, y), d) = dirsP c.W c.H G.uses ((x, y), d) 4 ++ lastP c.W c.H G.uses ((x, y), d)) := legal_turn_same hf
    have HLN : Hid (∀ (j k : Nat), j ≤ 3 → k < 16 → (∀ i : Nat, i < k → fitsU c.W c.H G.uses (shiftP ((x, y), d) (j : Int) ((i : Int) + 1)) = true) → legalU c.W c.H G.uses (runM ((x, y), d) (j : Int) ((k : Int) + 1)) = fitsU c.W c.H G.uses (shiftP ((x, y), d) (j : Int) ((k : Int) + 1))) := fun j k hj hk h => legal_next HW.out.1 HW.out.2 ⟨by omega, by omega⟩ hf k hk h
    clear hf
    have HLast : Hid (lastP c.W c.H G.uses ((x, y), d) = if legalU c.W c.H G.uses ((2 : Int), (0 : Int), (0 : Int), ((x, y), d), ((x, y), !d), (0 : Int), (0 : Int)) then [((2 : Int), (0 : Int), (0 : Int), ((x, y), d), ((x, y), !d), (0 : Int), (0 : Int))] else []) := rfl
    go_enter Tryz.func41, Tryz.ntmps41
    go_upto_region 1 with fail
    rw [← hwb]
    clear hwb
    go_wp2_with (first
      | (refine wpList_load_row rfl 26 (.tmp 2) rfl w.heap.size rfl 26 #[.int .i64 c.W, .int .i64 c.H, .int .i64 c.height, vb, vp, vr, vs, .int .i64 c.unit, .int .i64 c.accel, .int .i64 c.speed, .int .i64 c.turn, .int .i64 c.hoist, .int .i64 c.queue, .int .i64 c.resend, .int .i64 c.budget, .bool c.back] (0, 0) _ hcC Tryz.underlying26 rfl info_conf ?_)
      | (refine wpList_load_row rfl 42 (.tmp 3) rfl (w.heap.size + 1) rfl 42 #[.int .i64 x, .int .i64 y, .bool d] (0, 0) _ hcP Tryz.underlying42 rfl info_pose3 ?_)
      | (go_at_call 22; refine cF.mono ?_; rintro e w1 ⟨r1, rfl, rfl, b1⟩))
    have own0 : Hid (w1.ownsRow wb.heap.size 44 11 (.slice none 0 0) ((dirsP c.W c.H G.uses ((x, y), d) 0)).length (rowL moveL ((dirsP c.W c.H G.uses ((x, y), d) 0)))) := ⟨rfl, .inl ⟨rfl, rfl⟩⟩
    have HB0 : Hid (Below wb.heap.size wb w1) := b1
    clear hcC hcP cF b1 hsd Q0
    go_loopw [5, 6] (fun v i wq => ∃ j : Nat, j ≤ 4 ∧ i = .int .i64 j ∧ Hid (wq.ownsRow wb.heap.size 44 11 v ((dirsP c.W c.H G.uses ((x, y), d) j)).length (rowL moveL ((dirsP c.W c.H G.uses ((x, y), d) j)))) ∧ Hid (Below wb.heap.size wb wq)) (fun _ i _ => 4 - (intOf i).toNat)
    case atStart => exact ⟨0, Nat.zero_le _, rfl, own0, HB0⟩
    case round =>
      clear own0 HB0
      obtain ⟨j, hj, rfl, HO, HB⟩ := hrel
      by_cases hlt : j < 4
      · have hd : decide ((j : Int) ≤ 3) = true := decide_eq_true (by omega)
        go_wp2_with fail
        have HO1 : Hid (wr.ownsRow wb.heap.size 44 11 u5 ((dirsP c.W c.H G.uses ((x, y), d) j) ++ (firstRuns ((x, y), d) (j : Int) 0)).length (rowL moveL ((dirsP c.W c.H G.uses ((x, y), d) j) ++ (firstRuns ((x, y), d) (j : Int) 0)))) := by
          show wr.ownsRow wb.heap.size 44 11 u5 ((dirsP c.W c.H G.uses ((x, y), d) j) ++ (firstRuns ((x, y), d) (j : Int) 0)).length (rowL moveL ((dirsP c.W c.H G.uses ((x, y), d) j) ++ (firstRuns ((x, y), d) (j : Int) 0)))
          rw [firstRuns_zero, List.append_nil]
          exact HO.out
        have HF1 : Hid (∀ i : Nat, i < 0 → fitsU c.W c.H G.uses (shiftP ((x, y), d) (j : Int) ((i : Int) + 1)) = true) := fun i hi => absurd hi (by omega)
        clear HO hd
        go_loopw [5, 7] (fun v i wq => ∃ k : Nat, k ≤ 16 ∧ i = .int .i64 ((k : Int) + 1) ∧ Hid (wq.ownsRow wb.heap.size 44 11 v ((dirsP c.W c.H G.uses ((x, y), d) j) ++ (firstRuns ((x, y), d) (j : Int) k)).length (rowL moveL ((dirsP c.W c.H G.uses ((x, y), d) j) ++ (firstRuns ((x, y), d) (j : Int) k)))) ∧ Hid (Below wb.heap.size wb wq) ∧ Hid (∀ i : Nat, i < k → fitsU c.W c.H G.uses (shiftP ((x, y), d) (j : Int) ((i : Int) + 1)) = true)) (fun _ i _ => 17 - (intOf i).toNat)
        case atStart => exact ⟨0, Nat.zero_le _, by simp, HO1, HB, HF1⟩
        case round =>
          clear HO1 HB HF1
          obtain ⟨k, hk, rfl, HO, HB, HF⟩ := hrel
          by_cases hk16 : k < 16
          · have hd : decide ((k : Int) + 1 ≤ 16) = true := decide_eq_true (by omega)
            have hll := HLN.out j k (by omega) hk16 HF.out
            have HFS : Hid (firstRuns ((x, y), d) (j : Int) (k + 1) = (firstRuns ((x, y), d) (j : Int) k) ++ [runM ((x, y), d) (j : Int) ((k : Int) + 1)]) := firstRuns_succ _ _ _
            have HDF : Hid (fitsU c.W c.H G.uses (shiftP ((x, y), d) (j : Int) ((k : Int) + 1)) = false → dirP c.W c.H G.uses ((x, y), d) (j : Int) = (firstRuns ((x, y), d) (j : Int) k)) := fun h => dir_first k hk HF.out (Or.inr h)
            have cSh := fun u => shiftS_any x y d (j : Int) ((k : Int) + 1) u
            have HFN : Hid (fitsU c.W c.H G.uses (shiftP ((x, y), d) (j : Int) ((k : Int) + 1)) = true → ∀ i : Nat, i < k + 1 → fitsU c.W c.H G.uses (shiftP ((x, y), d) (j : Int) ((i : Int) + 1)) = true) := fun h i hi => by
              by_cases e : i = k
              · rw [e]; exact h
              · exact HF.out i (by omega)
            have HLn : Hid (((dirsP c.W c.H G.uses ((x, y), d) j) ++ (firstRuns ((x, y), d) (j : Int) k)).length ≤ 1000) := by
              show ((dirsP c.W c.H G.uses ((x, y), d) j) ++ (firstRuns ((x, y), d) (j : Int) k)).length ≤ 1000
              rw [List.length_append, firstRuns_len]
              have := dirs_le (W := c.W) (H := c.H) (us := G.uses) (p := ((x, y), d)) j
              omega
            unfold runM at hll HFS
            generalize hto : shiftP ((x, y), d) (j : Int) ((k : Int) + 1) = tq at *
            obtain ⟨⟨tx, ty⟩, td⟩ := tq
            unfold poseCs at cSh
            simp only at cSh
            clear hto
            obtain ⟨IH, hIH⟩ : ∃ I : World → Prop, I = fun u' => Below wr.heap.size wr u' := ⟨_, rfl⟩
            have HPo : Hid (∀ u, IH u → ∀ jj z, #[Value.int .i64 x, .int .i64 y, .bool d][jj]? = some z → u.cell? ((⟨w.heap.size + 1, 0, none⟩ : Addr).add jj) = some z) := fun u hu => by
              rw [hIH] at hu
              exact row_below (zP.out _ HB.out) hu
            have hS0 : IH wr.drew := by rw [hIH]; exact (Below.refl _ _).drew
            go_upto_region 10 with fail
            go_cut [8] from 18 to 37 (fun r8 wx => ∃ b : Nat, r8 = .pointer (some ⟨b, 0, none⟩) ∧ wx.heap[b]? = some (.cells #[.int .i64 1, .int .i64 j, .int .i64 ((k : Int) + 1), .int .i64 x, .int .i64 y, .bool d, .int .i64 tx, .int .i64 ty, .bool td, .int .i64 0, .int .i64 0] 44 (0, 0)) ∧ Below wr.heap.size wr wx)
            case first =>
              refine start_held (S := IH) 10 rfl (by kernel_rfl) hS0 ?_
              simp only [Array.replicate_succ, Array.replicate_zero, List.push_toArray, List.nil_append, List.cons_append]
              refine tkq 0 (by assumption) ?_
              refine tkq 1 (by assumption) ?_
              refine tkf 2 (by assumption) rfl (v := .agg #[.int .i64 x, .int .i64 y, .bool d]) (fun u hu => by exact run_load_op 42 _ rfl ⟨w.heap.size + 1, 0, none⟩ _ rfl (HPo.out u hu) (aggPose u) info_pose3) ?_
              refine tkf 3 (by assumption) rfl (v := .agg #[.int .i64 x, .int .i64 y, .bool d]) (fun u hu => by exact run_load_op 42 _ rfl ⟨w.heap.size + 1, 0, none⟩ _ rfl (HPo.out u hu) (aggPose u) info_pose3) ?_
              refine tkq 4 (by assumption) ?_
              refine tkq 5 (by assumption) ?_
              refine wpAnyH_ready (rs := [6, 8]) (by kernel_rfl) (by simp) (AllReadyH.cons ((nth_eq _ 6).trans rfl) ?_ (AllReadyH.cons ((nth_eq _ 8).trans rfl) ?_ AllReadyH.nil))
              · intro K' hK
                refine call_in hK (by kernel_rfl) 62 #[.agg #[.int .i64 x, .int .i64 y, .bool d], .int .i64 j, .int .i64 ((k : Int) + 1)] (by go_simp) _ (cSh wr.drew) ?_
                rintro v w5 ⟨rfl, b5⟩
                have B5 : Below wr.heap.size wr w5 := ((Below.refl _ _).drew).trans b5
                have hS5 : IH w5 := by rw [hIH]; exact B5
                refine ⟨hS5, ?_⟩
                simp only [Act.put, List.setIfInBounds_toArray, List.set_cons_zero, List.set_cons_succ]
                refine tkq 7 (by assumption) ?_
                have B6 := below_new B5 (.cells #[.int .i64 0, .int .i64 0, .int .i64 0, .int .i64 0, .int .i64 0, .bool false, .int .i64 0, .int .i64 0, .bool false, .int .i64 0, .int .i64 0] 44)
                refine value_held 8 rfl (by kernel_rfl) (by kernel_rfl) (.pointer (some ⟨w5.heap.size, 0, none⟩)) (w5.alloc (.cells #[.int .i64 0, .int .i64 0, .int .i64 0, .int .i64 0, .int .i64 0, .bool false, .int .i64 0, .int .i64 0, .bool false, .int .i64 0, .int .i64 0] 44)) (by go_simp; try rfl) (by rw [hIH]; exact B6) ?_
                simp only [Act.put, List.setIfInBounds_toArray, List.set_cons_zero, List.set_cons_succ]
                have hz := heap_alloc_new w5 (.cells #[.int .i64 0, .int .i64 0, .int .i64 0, .int .i64 0, .int .i64 0, .bool false, .int .i64 0, .int .i64 0, .bool false, .int .i64 0, .int .i64 0] 44)
                have hsz := B5.size
                have hst : (storeVar 44 ⟨w5.heap.size, 0, none⟩ (.agg #[.int .i64 1, .int .i64 j, .int .i64 ((k : Int) + 1), .int .i64 x, .int .i64 y, .bool d, .int .i64 tx, .int .i64 ty, .bool td, .int .i64 0, .int .i64 0])).run Tryz.prog (w5.alloc (.cells #[.int .i64 0, .int .i64 0, .int .i64 0, .int .i64 0, .int .i64 0, .bool false, .int .i64 0, .int .i64 0, .bool false, .int .i64 0, .int .i64 0] 44)) = .ok () ((w5.alloc (.cells #[.int .i64 0, .int .i64 0, .int .i64 0, .int .i64 0, .int .i64 0, .bool false, .int .i64 0, .int .i64 0, .bool false, .int .i64 0, .int .i64 0] 44)).setRow w5.heap.size #[.int .i64 1, .int .i64 j, .int .i64 ((k : Int) + 1), .int .i64 x, .int .i64 y, .bool d, .int .i64 tx, .int .i64 ty, .bool td, .int .i64 0, .int .i64 0]) := run_storeVar_row _ _ 44 _ #[.int .i64 0, .int .i64 0, .int .i64 0, .int .i64 0, .int .i64 0, .bool false, .int .i64 0, .int .i64 0, .bool false, .int .i64 0, .int .i64 0] _ hz info_move rfl (by simp [Value.oneCell'])
                have B7 := below_row B6 (by omega : wr.heap.size ≤ w5.heap.size) #[.int .i64 1, .int .i64 j, .int .i64 ((k : Int) + 1), .int .i64 x, .int .i64 y, .bool d, .int .i64 tx, .int .i64 ty, .bool td, .int .i64 0, .int .i64 0]
                refine store_held 9 rfl (by kernel_rfl) (by kernel_rfl) _ (run_store_op 44 (.tmp 8) (.tmp 29) rfl w5.heap.size _ rfl rfl hst) (by rw [hIH]; exact B7) ?_
                simp only [Act.put, List.setIfInBounds_toArray, List.set_cons_zero, List.set_cons_succ]
                refine done_held (by kernel_rfl) ?_ _
                have m8 := setRow_heap (w5.alloc (.cells #[.int .i64 0, .int .i64 0, .int .i64 0, .int .i64 0, .int .i64 0, .bool false, .int .i64 0, .int .i64 0, .bool false, .int .i64 0, .int .i64 0] 44)) w5.heap.size _ #[.int .i64 1, .int .i64 j, .int .i64 ((k : Int) + 1), .int .i64 x, .int .i64 y, .bool d, .int .i64 tx, .int .i64 ty, .bool td, .int .i64 0, .int .i64 0] _ _ hz
                go_wp2_with fail
                go_meet
                exact ⟨w5.heap.size, rfl, m8, B7⟩
              · intro K' hK
                have B5 := below_new ((Below.refl wr.heap.size wr).drew) (.cells #[.int .i64 0, .int .i64 0, .int .i64 0, .int .i64 0, .int .i64 0, .bool false, .int .i64 0, .int .i64 0, .bool false, .int .i64 0, .int .i64 0] 44)
                have hS5 : IH (wr.drew.alloc (.cells #[.int .i64 0, .int .i64 0, .int .i64 0, .int .i64 0, .int .i64 0, .bool false, .int .i64 0, .int .i64 0, .bool false, .int .i64 0, .int .i64 0] 44)) := by rw [hIH]; exact B5
                refine value_in hK (by kernel_rfl) (.pointer (some ⟨wr.heap.size, 0, none⟩)) (wr.drew.alloc (.cells #[.int .i64 0, .int .i64 0, .int .i64 0, .int .i64 0, .int .i64 0, .bool false, .int .i64 0, .int .i64 0, .bool false, .int .i64 0, .int .i64 0] 44)) (by go_simp; try rfl) hS5 ?_
                simp only [Act.put, List.setIfInBounds_toArray, List.set_cons_zero, List.set_cons_succ]
                have hn5 : (wr.drew.alloc (.cells #[.int .i64 0, .int .i64 0, .int .i64 0, .int .i64 0, .int .i64 0, .bool false, .int .i64 0, .int .i64 0, .bool false, .int .i64 0, .int .i64 0] 44)).heap[wr.heap.size]? = some (.cells #[.int .i64 0, .int .i64 0, .int .i64 0, .int .i64 0, .int .i64 0, .bool false, .int .i64 0, .int .i64 0, .bool false, .int .i64 0, .int .i64 0] 44 (0, 0)) := heap_alloc_new _ _
                generalize hU : wr.drew.alloc (.cells #[.int .i64 0, .int .i64 0, .int .i64 0, .int .i64 0, .int .i64 0, .bool false, .int .i64 0, .int .i64 0, .bool false, .int .i64 0, .int .i64 0] 44) = w4 at *
                clear hU
                refine wpAnyH_ready (rs := [6]) (by kernel_rfl) (by simp) (AllReadyH.cons ((nth_eq _ 6).trans rfl) ?_ AllReadyH.nil)
                intro K' hK
                refine call_in hK (by kernel_rfl) 62 #[.agg #[.int .i64 x, .int .i64 y, .bool d], .int .i64 j, .int .i64 ((k : Int) + 1)] (by go_simp) _ (cSh w4) ?_
                rintro v w5 ⟨rfl, b5⟩
                have B6 : Below wr.heap.size wr w5 := bcat B5 b5 (Nat.le_refl _)
                have hS6 : IH w5 := by rw [hIH]; exact B6
                refine ⟨hS6, ?_⟩
                simp only [Act.put, List.setIfInBounds_toArray, List.set_cons_zero, List.set_cons_succ]
                refine tkq 7 (by assumption) ?_
                have hz := (b5.block _ (lt_of_heap hn5)).trans hn5
                have hst : (storeVar 44 ⟨wr.heap.size, 0, none⟩ (.agg #[.int .i64 1, .int .i64 j, .int .i64 ((k : Int) + 1), .int .i64 x, .int .i64 y, .bool d, .int .i64 tx, .int .i64 ty, .bool td, .int .i64 0, .int .i64 0])).run Tryz.prog w5 = .ok () (w5.setRow wr.heap.size #[.int .i64 1, .int .i64 j, .int .i64 ((k : Int) + 1), .int .i64 x, .int .i64 y, .bool d, .int .i64 tx, .int .i64 ty, .bool td, .int .i64 0, .int .i64 0]) := run_storeVar_row _ _ 44 _ #[.int .i64 0, .int .i64 0, .int .i64 0, .int .i64 0, .int .i64 0, .bool false, .int .i64 0, .int .i64 0, .bool false, .int .i64 0, .int .i64 0] _ hz info_move rfl (by simp [Value.oneCell'])
                have B7 := below_row B6 (by omega : wr.heap.size ≤ wr.heap.size) #[.int .i64 1, .int .i64 j, .int .i64 ((k : Int) + 1), .int .i64 x, .int .i64 y, .bool d, .int .i64 tx, .int .i64 ty, .bool td, .int .i64 0, .int .i64 0]
                refine store_held 9 rfl (by kernel_rfl) (by kernel_rfl) _ (run_store_op 44 (.tmp 8) (.tmp 29) rfl wr.heap.size _ rfl rfl hst) (by rw [hIH]; exact B7) ?_
                simp only [Act.put, List.setIfInBounds_toArray, List.set_cons_zero, List.set_cons_succ]
                refine done_held (by kernel_rfl) ?_ _
                have m8 := setRow_heap w5 wr.heap.size _ #[.int .i64 1, .int .i64 j, .int .i64 ((k : Int) + 1), .int .i64 x, .int .i64 y, .bool d, .int .i64 tx, .int .i64 ty, .bool td, .int .i64 0, .int .i64 0] _ _ hz
                go_wp2_with fail
                go_meet
                exact ⟨wr.heap.size, rfl, m8, B7⟩
            case rest =>
            obtain ⟨mb, rfl, hmb, b6⟩ := hcut
            have HB6 := bcat HB.out b6 (Nat.le_refl _)
            have hC6 := zC.out _ HB6
            have cL6 := cL.out _ HB6 ((1 : Int), (j : Int), (k : Int) + 1, ((x, y), d), ((tx, ty), td), (0 : Int), (0 : Int))
            rw [hll] at cL6
            unfold moveCs at cL6
            simp only at cL6
            clear hIH HPo hS0 hll
            cases hft : fitsU c.W c.H G.uses ((tx, ty), td)
            · rw [hft] at cL6
              have HD2 := HDF.out hft
              go_wp2_with (first
                | (refine wpList_load_row rfl 26 (.tmp 2) rfl w.heap.size rfl 26 #[.int .i64 c.W, .int .i64 c.H, .int .i64 c.height, vb, vp, vr, vs, .int .i64 c.unit, .int .i64 c.accel, .int .i64 c.speed, .int .i64 c.turn, .int .i64 c.hoist, .int .i64 c.queue, .int .i64 c.resend, .int .i64 c.budget, .bool c.back] (0, 0) _ hC6 Tryz.underlying26 rfl info_conf ?_)
                | (refine wpList_load_row rfl 44 (.tmp 8) rfl mb rfl 44 #[.int .i64 1, .int .i64 j, .int .i64 ((k : Int) + 1), .int .i64 x, .int .i64 y, .bool d, .int .i64 tx, .int .i64 ty, .bool td, .int .i64 0, .int .i64 0] (0, 0) _ hmb Tryz.underlying44 rfl info_move ?_)
                | (go_at_call 63; refine cL6.mono ?_; rintro e w7 ⟨r7, rfl, rfl, b7⟩))
              go_roundw
              case rel =>
                refine ⟨j + 1, by omega, by go_num, ?_, bcat HB6 b7 (Nat.le_refl _)⟩
                show w7.ownsRow wb.heap.size 44 11 u5 ((dirsP c.W c.H G.uses ((x, y), d) (j + 1))).length (rowL moveL ((dirsP c.W c.H G.uses ((x, y), d) (j + 1))))
                rw [dirs_succ, HD2]
                exact own_go (own_go HO.out b6) b7
              case measure => simp only [intOf]; omega
            · rw [hft] at cL6
              have HO6a := own_go HO.out b6
              go_wp2_with (first
                | (have X' := HB8; refine wpList_load_row rfl 44 (.tmp 8) rfl mb rfl 44 #[.int .i64 1, .int .i64 j, .int .i64 ((k : Int) + 1), .int .i64 x, .int .i64 y, .bool d, .int .i64 tx, .int .i64 ty, .bool td, .int .i64 0, .int .i64 0] (0, 0) _ hm8 Tryz.underlying44 rfl info_move ?_)
                | (refine wpList_load_row rfl 26 (.tmp 2) rfl w.heap.size rfl 26 #[.int .i64 c.W, .int .i64 c.H, .int .i64 c.height, vb, vp, vr, vs, .int .i64 c.unit, .int .i64 c.accel, .int .i64 c.speed, .int .i64 c.turn, .int .i64 c.hoist, .int .i64 c.queue, .int .i64 c.resend, .int .i64 c.budget, .bool c.back] (0, 0) _ hC6 Tryz.underlying26 rfl info_conf ?_)
                | (refine wpList_load_row rfl 44 (.tmp 8) rfl mb rfl 44 #[.int .i64 1, .int .i64 j, .int .i64 ((k : Int) + 1), .int .i64 x, .int .i64 y, .bool d, .int .i64 tx, .int .i64 ty, .bool td, .int .i64 0, .int .i64 0] (0, 0) _ hmb Tryz.underlying44 rfl info_move ?_)
                | (go_at_call 63; refine cL6.mono ?_; rintro e w8 ⟨r8, rfl, rfl, b8⟩; have HB8 := bcat HB6 b8 (Nat.le_refl _); have hm8 := (b8.block _ (lt_of_heap hmb)).trans hmb; have HO8 := own_go HO6a b8)
                | (at_builtin; have bA := (Below.refl w8.heap.size w8).alloc (Nat.le_refl _) (.cells #[.int .i64 1, .int .i64 j, .int .i64 ((k : Int) + 1), .int .i64 x, .int .i64 y, .bool d, .int .i64 tx, .int .i64 ty, .bool td, .int .i64 0, .int .i64 0] 44); have HO6 := own_go HO8 bA; have L6 := list_one (f := moveL) (S := 11) w8 ((1 : Int), (j : Int), (k : Int) + 1, ((x, y), d), ((tx, ty), td), (0 : Int), (0 : Int)) 44 rfl; have e1 : (((dirsP c.W c.H G.uses ((x, y), d) j) ++ (firstRuns ((x, y), d) (j : Int) k)).length + [(((1 : Int), (j : Int), (k : Int) + 1, ((x, y), d), ((tx, ty), td), (0 : Int), (0 : Int)) : Move)].length) * 88 ≤ 140737488355328 := (by have := HLn.out; simp only [List.length_cons, List.length_nil]; omega); have e2 : ((dirsP c.W c.H G.uses ((x, y), d) j) ++ (firstRuns ((x, y), d) (j : Int) k)).length + [(((1 : Int), (j : Int), (k : Int) + 1, ((x, y), d), ((tx, ty), td), (0 : Int), (0 : Int)) : Move)].length ≤ maxLen := (by have := HLn.out; unfold maxLen; simp only [List.length_cons, List.length_nil]; omega); have e3 := Nat.le_trans HB8.size bA.size; refine wpList_app kindMove rfl (.tmp 34) (.tmp 36) rfl _ _ _ rfl HO6 _ _ [(((1 : Int), (j : Int), (k : Int) + 1, ((x, y), d), ((tx, ty), td), (0 : Int), (0 : Int)) : Move)] rfl L6 e1 e2 e3 ?_; intro v7 w7 own7 g7 at7; have HB7 := below_row2 (bcat HB8 bA (Nat.le_refl _)) (Nat.le_refl _) HO6 g7))
              go_roundw
              case rel =>
                refine ⟨k + 1, by omega, by go_num, ?_, HB7, HFN.out hft⟩
                show w7.ownsRow wb.heap.size 44 11 v7 ((dirsP c.W c.H G.uses ((x, y), d) j) ++ (firstRuns ((x, y), d) (j : Int) (k + 1))).length (rowL moveL ((dirsP c.W c.H G.uses ((x, y), d) j) ++ (firstRuns ((x, y), d) (j : Int) (k + 1))))
                rw [HFS.out, ← List.append_assoc]
                exact own7
              case measure => simp only [intOf]; omega
          · obtain rfl : k = 16 := by omega
            have HD2 : dirP c.W c.H G.uses ((x, y), d) (j : Int) = (firstRuns ((x, y), d) (j : Int) 16) := dir_first 16 (Nat.le_refl _) HF.out (Or.inl rfl)
            go_wp2_with fail
            go_roundw
            case rel =>
              refine ⟨j + 1, by omega, by go_num, ?_, HB⟩
              show wr.ownsRow wb.heap.size 44 11 u5 ((dirsP c.W c.H G.uses ((x, y), d) (j + 1))).length (rowL moveL ((dirsP c.W c.H G.uses ((x, y), d) (j + 1))))
              rw [dirs_succ, HD2]
              exact HO.out
            case measure => simp only [intOf]; omega
      · obtain rfl : j = 4 := by omega
        have hP1 := zP.out _ HB.out
        have p0 : wr.cell? ⟨w.heap.size + 1, 0, none⟩ = some (.int .i64 x) := cell_of hP1 0
        have p1 : wr.cell? ⟨w.heap.size + 1, 1, none⟩ = some (.int .i64 y) := cell_of hP1 1
        have p2 : wr.cell? ⟨w.heap.size + 1, 2, none⟩ = some (.bool d) := cell_of hP1 2
        clear hP1
        obtain ⟨wm, hwm⟩ : ∃ wm, wm = wr.alloc (.cells #[.int .i64 2, .int .i64 0, .int .i64 0, .int .i64 x, .int .i64 y, .bool d, .int .i64 x, .int .i64 y, .bool (!d), .int .i64 0, .int .i64 0] 44) := ⟨_, rfl⟩
        have bm : Below wr.heap.size wr wm := by rw [hwm]; exact below_new (Below.refl _ _) _
        have em : wm.heap[wr.heap.size]? = some (.cells #[.int .i64 2, .int .i64 0, .int .i64 0, .int .i64 x, .int .i64 y, .bool d, .int .i64 x, .int .i64 y, .bool (!d), .int .i64 0, .int .i64 0] 44 (0, 0)) := by rw [hwm]; exact heap_alloc_new wr _
        have HBm := bcat HB.out bm (Nat.le_refl _)
        have hCm := zC.out _ HBm
        have cLm := cL.out _ HBm ((2 : Int), (0 : Int), (0 : Int), ((x, y), d), ((x, y), !d), (0 : Int), (0 : Int))
        have HOm := own_go HO.out bm
        have HLn : Hid (((dirsP c.W c.H G.uses ((x, y), d) 4)).length ≤ 1000) := by
          have := dirs_le (W := c.W) (H := c.H) (us := G.uses) (p := ((x, y), d)) 4
          show ((dirsP c.W c.H G.uses ((x, y), d) 4)).length ≤ 1000
          omega
        obtain ⟨bz, hbz⟩ : ∃ bz, wr.heap.size = bz := ⟨_, rfl⟩
        have HBZ : Hid (wr.heap.size = bz) := hbz
        rw [hbz] at em
        go_upto_region 14 with fail
        rw [← hwm]
        clear hwm p0 p1 p2
        try rw [hbz]
        clear hbz
        cases hlg : legalU c.W c.H G.uses ((2 : Int), (0 : Int), (0 : Int), ((x, y), d), ((x, y), !d), (0 : Int), (0 : Int))
        · rw [hlg] at cLm
          unfold moveCs at cLm
          simp only at cLm
          go_wp2_with (first
            | (refine wpList_load_row rfl 26 (.tmp 2) rfl w.heap.size rfl 26 #[.int .i64 c.W, .int .i64 c.H, .int .i64 c.height, vb, vp, vr, vs, .int .i64 c.unit, .int .i64 c.accel, .int .i64 c.speed, .int .i64 c.turn, .int .i64 c.hoist, .int .i64 c.queue, .int .i64 c.resend, .int .i64 c.budget, .bool c.back] (0, 0) _ hCm Tryz.underlying26 rfl info_conf ?_)
            | (refine wpList_load_row rfl 44 (.tmp 9) rfl bz rfl 44 #[.int .i64 2, .int .i64 0, .int .i64 0, .int .i64 x, .int .i64 y, .bool d, .int .i64 x, .int .i64 y, .bool (!d), .int .i64 0, .int .i64 0] (0, 0) _ em Tryz.underlying44 rfl info_move ?_)
            | (go_at_call 63; refine cLm.mono ?_; rintro e w8 ⟨r8, rfl, rfl, b8⟩))
          go_ret
          refine ⟨_, rfl, ?_, bcat Bt (bcat HBm b8 (Nat.le_refl _)) (Nat.le_refl _)⟩
          rw [HMV.out, HLast.out, if_neg (by rw [hlg]; decide), List.append_nil]
          exact own_lower (own_go HOm b8) Bt.size
        · rw [hlg] at cLm
          unfold moveCs at cLm
          simp only at cLm
          go_wp2_with (first
            | (have X' := HB8; refine wpList_load_row rfl 44 (.tmp 9) rfl bz rfl 44 #[.int .i64 2, .int .i64 0, .int .i64 0, .int .i64 x, .int .i64 y, .bool d, .int .i64 x, .int .i64 y, .bool (!d), .int .i64 0, .int .i64 0] (0, 0) _ hm8 Tryz.underlying44 rfl info_move ?_)
            | (refine wpList_load_row rfl 26 (.tmp 2) rfl w.heap.size rfl 26 #[.int .i64 c.W, .int .i64 c.H, .int .i64 c.height, vb, vp, vr, vs, .int .i64 c.unit, .int .i64 c.accel, .int .i64 c.speed, .int .i64 c.turn, .int .i64 c.hoist, .int .i64 c.queue, .int .i64 c.resend, .int .i64 c.budget, .bool c.back] (0, 0) _ hCm Tryz.underlying26 rfl info_conf ?_)
            | (refine wpList_load_row rfl 44 (.tmp 9) rfl bz rfl 44 #[.int .i64 2, .int .i64 0, .int .i64 0, .int .i64 x, .int .i64 y, .bool d, .int .i64 x, .int .i64 y, .bool (!d), .int .i64 0, .int .i64 0] (0, 0) _ em Tryz.underlying44 rfl info_move ?_)
            | (go_at_call 63; refine cLm.mono ?_; rintro e w8 ⟨r8, rfl, rfl, b8⟩; have HB8 := bcat HBm b8 (Nat.le_refl _); have hm8 := (b8.block _ (lt_of_heap em)).trans em; have HO8 := own_go HOm b8)
            | (at_builtin; have bA := (Below.refl w8.heap.size w8).alloc (Nat.le_refl _) (.cells #[.int .i64 2, .int .i64 0, .int .i64 0, .int .i64 x, .int .i64 y, .bool d, .int .i64 x, .int .i64 y, .bool (!d), .int .i64 0, .int .i64 0] 44); have HO6 := own_go HO8 bA; have L6 := list_one (f := moveL) (S := 11) w8 ((2 : Int), (0 : Int), (0 : Int), ((x, y), d), ((x, y), !d), (0 : Int), (0 : Int)) 44 rfl; have e1 : (((dirsP c.W c.H G.uses ((x, y), d) 4)).length + [(((2 : Int), (0 : Int), (0 : Int), ((x, y), d), ((x, y), !d), (0 : Int), (0 : Int)) : Move)].length) * 88 ≤ 140737488355328 := (by have := HLn.out; simp only [List.length_cons, List.length_nil]; omega); have e2 : ((dirsP c.W c.H G.uses ((x, y), d) 4)).length + [(((2 : Int), (0 : Int), (0 : Int), ((x, y), d), ((x, y), !d), (0 : Int), (0 : Int)) : Move)].length ≤ maxLen := (by have := HLn.out; unfold maxLen; simp only [List.length_cons, List.length_nil]; omega); have e3 := Nat.le_trans HB8.size bA.size; refine wpList_app kindMove rfl (.tmp 49) (.tmp 51) rfl _ _ _ rfl HO6 _ _ [(((2 : Int), (0 : Int), (0 : Int), ((x, y), d), ((x, y), !d), (0 : Int), (0 : Int)) : Move)] rfl L6 e1 e2 e3 ?_; intro v7 w7 own7 g7 at7; have HB7 := below_row2 (bcat HB8 bA (Nat.le_refl _)) (Nat.le_refl _) HO6 g7))
          go_ret
          refine ⟨_, rfl, ?_, bcat Bt HB7 (Nat.le_refl _)⟩
          rw [HMV.out, HLast.out, if_pos hlg]
          exact own_lower own7 Bt.size
end Go.Proofs.YtedhoghleelhfaaGreat.Grid
namespace Go.Proofs.YtedhoghleelhfaaGreat.Grid
set_option linter.unusedVariables false
set_option linter.unusedSimpArgs false
open Go Go.RowKit Go.Shelf Go.Proofs

end Go.Proofs.YtedhoghleelhfaaGreat.Grid
