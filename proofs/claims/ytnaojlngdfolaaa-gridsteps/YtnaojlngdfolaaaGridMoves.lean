/-
  The moves of a pose, told one by one to any function.
-/
import Derived.Test.YtnaojlngdfolaaaGridLegal2
namespace Go.Proofs.Ytnaojlngdfolaaa.Grid
set_option linter.unusedVariables false
set_option linter.unusedSimpArgs false
open Go Go.RowKit Go.Shelf Go.Proofs

def runM (p : Pose) (d n : Int) : Move := (1, d, n, p, shiftP p d n, 0, 0)
def turnM (p : Pose) : Move := (2, 0, 0, p, turnP p, 0, 0)
def runsP (W H : Int) (us : List Int) (p : Pose) (d : Int) : Nat → Int → List Move
  | 0, _ => []
  | k + 1, n => if fitsU W H us (shiftP p d n) then runM p d n :: runsP W H us p d k (n + 1) else []
def dirP (W H : Int) (us : List Int) (p : Pose) (d : Int) : List Move := runsP W H us p d 16 1
def dirsP (W H : Int) (us : List Int) (p : Pose) (j : Nat) : List Move := (List.range j).flatMap fun (i : Nat) => dirP W H us p (i : Int)
def lastP (W H : Int) (us : List Int) (p : Pose) : List Move := if legalU W H us (turnM p) then [turnM p] else []
def movesP (W H : Int) (us : List Int) (p : Pose) : List Move := if fitsU W H us p then dirsP W H us p 4 ++ lastP W H us p else []
theorem dirs_succ (W H : Int) (us : List Int) (p : Pose) (j : Nat) : dirsP W H us p (j + 1) = dirsP W H us p j ++ dirP W H us p (j : Int) := by
  unfold dirsP
  rw [List.range_succ, List.flatMap_append]
  simp
theorem dirs_pre (W H : Int) (us : List Int) (p : Pose) {i j : Nat} (h : i ≤ j) : dirsP W H us p i <+: dirsP W H us p j := by
  induction j with
  | zero => rw [show i = 0 by omega]; exact List.prefix_rfl
  | succ j ih =>
    by_cases e : i = j + 1
    · rw [e]; exact List.prefix_rfl
    · rw [dirs_succ]; exact (ih (by omega)).trans (List.prefix_append _ _)
theorem dirs_moves {W H : Int} {us : List Int} {p : Pose} (hf : fitsU W H us p = true) {j : Nat} (h : j ≤ 4) {l : List Move} (hl : l <+: dirsP W H us p j) : l <+: movesP W H us p := by
  unfold movesP
  rw [if_pos hf]
  exact (hl.trans (dirs_pre W H us p h)).trans (List.prefix_append _ _)
theorem noGoto_ret {Q : Exit → Act → World → Prop} {a : Act} {w : World} (h : Q .ret a w) : Exit.noGoto Q .ret a w := h
/- A grid, and two variables that hold it and a pose. -/
structure Ctx (w : World) (g u : Nat) (W H : Int) (us : List Int) (vp : Value) (Bg Bp : Nat) (p : Pose) : Prop where
  grid : GridAt w g u W H us vp
  bg : w.heap[Bg]? = some (.cells #[.pointer (some ⟨g, 0, none⟩)] 31 (0, 0))
  bp : w.heap[Bp]? = some (.cells #[.int .i64 p.1.1, .int .i64 p.1.2, .bool p.2] 30 (0, 0))
theorem Ctx.go {w w' : World} {g u : Nat} {W H : Int} {us : List Int} {vp : Value} {Bg Bp : Nat} {p : Pose} (h : Ctx w g u W H us vp Bg Bp p) (hb : Below w.heap.size w w') : Ctx w' g u W H us vp Bg Bp p :=
  ⟨h.grid.go hb, (hb.block _ (lt_of_heap h.bg)).trans h.bg, (hb.block _ (lt_of_heap h.bp)).trans h.bp⟩
theorem turned_call (x y : Int) (d : Bool) (w : World) : Calls Try.prog 81 #[.agg #[.int .i64 x, .int .i64 y, .bool d]] w fun e w' => ∃ v, e = .returned v ∧ v = .agg #[.int .i64 x, .int .i64 y, .bool (!d)] ∧ Below w.heap.size w w' := by
  refine (turned_any x y d w).mono ?_
  rintro e w' ⟨rfl, b⟩
  exact ⟨_, rfl, rfl, b⟩
theorem info_move : (Try.prog.info? 56).map (·.size) = some 11 := by kernel_rfl
set_option maxRecDepth 100000 in
set_option maxHeartbeats 2000000 in
theorem moves1_any (g u : Nat) (W H : Int) (us : List Int) (vp : Value) (Bg Bp : Nat) (x y : Int) (d : Bool) (fy : Nat) (fr : Array Value) (J Jx : List Move → World → Prop) (w : World)
    (hS : ∀ pre w1 w2, J pre w1 → Below w1.heap.size w1 w2 → J pre w2) (hC : ∀ pre w1, J pre w1 → Ctx w1 g u W H us vp Bg Bp ((x, y), d))
    (hE : ∀ args w, (callFunc fy args).run Try.prog w = .ok (.enter fy args) w)
    (hY : ∀ pre m w1, J pre w1 → pre ++ [m] <+: movesP W H us ((x, y), d) → Calls Try.prog fy (#[.agg (moveCs m)] ++ fr) w1 fun e w' => (e = .returned (.bool true) ∧ J (pre ++ [m]) w') ∨ (e = .returned (.bool false) ∧ Jx (pre ++ [m]) w'))
    (h0 : J [] w) :
    Calls Try.prog 79 #[.func (.func fy) #[] fr, .pointer (some ⟨Bg, 0, none⟩), .pointer (some ⟨Bp, 0, none⟩)] w fun e w' => e = .returned (.tuple #[]) ∧ (J (movesP W H us ((x, y), d)) w' ∨ ∃ pre, pre <+: movesP W H us ((x, y), d) ∧ Jx pre w') := by
  have cw := hC _ _ h0
  have g0 : w.cell? ⟨Bg, 0, none⟩ = some (.pointer (some ⟨g, 0, none⟩)) := cell_of cw.bg 0
  have p0 : w.cell? ⟨Bp, 0, none⟩ = some (.int .i64 x) := cell_of cw.bp 0
  have p1 : w.cell? ⟨Bp, 1, none⟩ = some (.int .i64 y) := cell_of cw.bp 1
  have p2 : w.cell? ⟨Bp, 2, none⟩ = some (.bool d) := cell_of cw.bp 2
  have cF := fits_any g u W H us vp x y d w cw.grid
  cases hf : fitsU W H us ((x, y), d)
  · rw [hf] at cF
    have HM : Hid (movesP W H us ((x, y), d) = []) := by unfold Hid movesP; rw [if_neg (by rw [hf]; decide)]
    go_enter Try.func79, Try.ntmps79
    refine wp_scope_straight ?_
    go_wp2_with (first | (go_at_call 80; refine cF.mono ?_; rintro e w1 ⟨rfl, b1⟩))
    exact noGoto_ret (bodyPost_ret (results_none rfl _ _ _) rfl ⟨rfl, Or.inl (by rw [HM.out]; exact hS _ _ _ h0 b1)⟩)
  · rw [hf] at cF
    have HF : Hid (fitsU W H us ((x, y), d) = true) := hf
    have HMV : Hid (movesP W H us ((x, y), d) = dirsP W H us ((x, y), d) 4 ++ lastP W H us ((x, y), d)) := by unfold Hid movesP; rw [if_pos hf]
    clear hf
    go_enter Try.func79, Try.ntmps79
    refine wp_scope_straight ?_
    go_wp2_with (first | (go_at_call 80; refine cF.mono ?_; rintro e w1 ⟨rfl, b1⟩) | (refine wp_label ?_))
    go_loopw [4] (fun v wr => ∃ (j : Nat), j ≤ 4 ∧ v = .int .i64 j ∧ J (dirsP W H us ((x, y), d) j) wr) (fun v _ => 4 - (intOf v).toNat)
    case atStart => exact ⟨0, by omega, rfl, hS _ _ _ h0 b1⟩
    case round =>
      obtain ⟨j, hj, rfl, hJ⟩ := hrel
      by_cases hlt : j < 4
      · have hlt3 : (j : Int) ≤ 3 := by omega
        go_wp2
        go_loopw [5] (fun v wr => ∃ (k : Nat) (done : List Move), k ≤ 16 ∧ v = .int .i64 ((k : Int) + 1) ∧ Hid (dirP W H us ((x, y), d) (j : Int) = done ++ runsP W H us ((x, y), d) (j : Int) (16 - k) ((k : Int) + 1)) ∧ J (dirsP W H us ((x, y), d) j ++ done) wr) (fun v _ => 17 - (intOf v).toNat)
        case atStart => exact ⟨0, [], by omega, rfl, rfl, by simpa using hJ⟩
        case round =>
          obtain ⟨k, done, hk, rfl, HD, hJk⟩ := hrel
          have cc := hC _ _ hJk
          have g1 : wr.cell? ⟨Bg, 0, none⟩ = some (.pointer (some ⟨g, 0, none⟩)) := cell_of cc.bg 0
          have p3 : wr.cell? ⟨Bp, 0, none⟩ = some (.int .i64 x) := cell_of cc.bp 0
          have p4 : wr.cell? ⟨Bp, 1, none⟩ = some (.int .i64 y) := cell_of cc.bp 1
          have p5 : wr.cell? ⟨Bp, 2, none⟩ = some (.bool d) := cell_of cc.bp 2
          have cS := shift_any (.pointer (some ⟨g, 0, none⟩)) x y d (j : Int) ((k : Int) + 1) wr
          by_cases hk16 : k < 16
          · have hms : mayShift (j : Int) ((k : Int) + 1) = true := by unfold mayShift; simp; omega
            unfold shiftR at cS
            rw [hms, if_pos rfl] at cS
            have HR : Hid (runsP W H us ((x, y), d) (j : Int) (16 - k) ((k : Int) + 1) = if fitsU W H us (shiftP ((x, y), d) (j : Int) ((k : Int) + 1)) then runM ((x, y), d) (j : Int) ((k : Int) + 1) :: runsP W H us ((x, y), d) (j : Int) (16 - (k + 1)) ((k : Int) + 1 + 1) else []) := by
              show _ = _
              rw [show 16 - k = (16 - (k + 1)) + 1 by omega]
              rfl
            unfold runM at HR
            generalize hto : shiftP ((x, y), d) (j : Int) ((k : Int) + 1) = to at *
            obtain ⟨⟨tx, ty⟩, td⟩ := to
            unfold poseCs at cS
            simp only at cS
            have cT := fun wx (hb : Below wr.heap.size wr wx) => fits_any g u W H us vp tx ty td wx (cc.grid.go hb)
            clear hto hms
            have hA := fun (w1 : World) (b1 : Below wr.heap.size wr w1) => cc.go (below_new b1 (.cells #[.int .i64 tx, .int .i64 ty, .bool td] 30))
            cases hft : fitsU W H us ((tx, ty), td)
            · rw [hft] at cT
              have HD2 : Hid (dirP W H us ((x, y), d) (j : Int) = done) := by
                have := HD.out
                rw [HR.out, if_neg (by rw [hft]; decide), List.append_nil] at this
                exact this
              go_wp2_with (first
                | (go_at_call 28; refine cS.mono ?_; rintro e w2 ⟨rfl, b2⟩; have g2 : (w2.alloc (.cells #[.int .i64 tx, .int .i64 ty, .bool td] 30)).cell? ⟨Bg, 0, none⟩ = some (.pointer (some ⟨g, 0, none⟩)) := cell_of (hA _ b2).bg 0)
                | (go_at_call 80; refine (cT _ (below_new b2 _)).mono ?_; rintro e w3 ⟨rfl, b3⟩))
              go_roundw
              case rel => exact ⟨j + 1, by omega, by go_num, by rw [dirs_succ, HD2.out]; exact hS _ _ _ hJk (bcat (below_new b2 _) b3 (Nat.le_refl _))⟩
              case measure => simp [intOf]; omega
            · rw [hft] at cT
              have HD2 : Hid (dirP W H us ((x, y), d) (j : Int) = (done ++ [((1 : Int), (j : Int), (k : Int) + 1, ((x, y), d), ((tx, ty), td), (0 : Int), (0 : Int))]) ++ runsP W H us ((x, y), d) (j : Int) (16 - (k + 1)) ((k : Int) + 1 + 1)) := by
                have := HD.out
                rw [HR.out, if_pos hft] at this
                show _ = _
                rw [this]
                simp
              have HP : Hid (dirsP W H us ((x, y), d) j ++ done ++ [((1 : Int), (j : Int), (k : Int) + 1, ((x, y), d), ((tx, ty), td), (0 : Int), (0 : Int))] <+: movesP W H us ((x, y), d)) := by
                refine dirs_moves HF.out (show j + 1 ≤ 4 by omega) ?_
                rw [dirs_succ, HD2.out, List.append_assoc]
                exact (List.prefix_append_right_inj _).2 (List.prefix_append _ _)
              have cY := fun wx (hb : Below wr.heap.size wr wx) => hY (dirsP W H us ((x, y), d) j ++ done) ((1 : Int), (j : Int), (k : Int) + 1, ((x, y), d), ((tx, ty), td), (0 : Int), (0 : Int)) wx (hS _ _ _ hJk hb) HP.out
              unfold moveCs at cY
              simp only at cY
              go_wp2_with (first
                | (go_at_call 28; refine cS.mono ?_; rintro e w2 ⟨rfl, b2⟩; have g2 : (w2.alloc (.cells #[.int .i64 tx, .int .i64 ty, .bool td] 30)).cell? ⟨Bg, 0, none⟩ = some (.pointer (some ⟨g, 0, none⟩)) := cell_of (hA _ b2).bg 0; have HTO := heap_alloc_new w2 (.cells #[.int .i64 tx, .int .i64 ty, .bool td] 30))
                | (go_at_call 80; refine (cT _ (below_new b2 _)).mono ?_; rintro e w3 ⟨rfl, b3⟩; have B3 := bcat (below_new b2 _) b3 (Nat.le_refl _); have N3 := (b3.block _ (by simp)).trans HTO; have c3 := cc.go B3; have p6 : w3.cell? ⟨Bp, 0, none⟩ = some (.int .i64 x) := cell_of c3.bp 0; have p7 : w3.cell? ⟨Bp, 1, none⟩ = some (.int .i64 y) := cell_of c3.bp 1; have p8 : w3.cell? ⟨Bp, 2, none⟩ = some (.bool d) := cell_of c3.bp 2; have o0 : w3.cell? ⟨w2.heap.size, 0, none⟩ = some (.int .i64 tx) := cell_of N3 0; have o1 : w3.cell? ⟨w2.heap.size, 1, none⟩ = some (.int .i64 ty) := cell_of N3 1; have o2 : w3.cell? ⟨w2.heap.size, 2, none⟩ = some (.bool td) := cell_of N3 2))
              refine (cY w3 B3).mono ?_
              rintro e w4 (⟨rfl, hJ4⟩ | ⟨rfl, hJx4⟩)
              · go_wp2
                go_roundw
                case rel =>
                  refine ⟨k + 1, done ++ [((1 : Int), (j : Int), (k : Int) + 1, ((x, y), d), ((tx, ty), td), (0 : Int), (0 : Int))], by omega, by go_num, ?_, ?_⟩
                  · show _ = _
                    rw [show (((k + 1 : Nat) : Int) + 1) = (k : Int) + 1 + 1 by omega]
                    exact HD2.out
                  · rw [← List.append_assoc]
                    exact hJ4
                case measure => simp [intOf]; omega
              · go_wp2
                exact noGoto_ret (bodyPost_ret (results_none rfl _ _ _) rfl ⟨rfl, Or.inr ⟨_, HP.out, hJx4⟩⟩)
          · have hms : mayShift (j : Int) ((k : Int) + 1) = false := by unfold mayShift; simp; omega
            unfold shiftR at cS
            rw [hms, if_neg (by decide)] at cS
            unfold poseCs zeroP at cS
            simp only at cS
            have HD2 : Hid (dirP W H us ((x, y), d) (j : Int) = done) := by
              have := HD.out
              rw [show 16 - k = 0 by omega] at this
              show _ = _
              rw [this]
              exact List.append_nil _
            go_wp2_with (first
              | (go_at_call 28; refine cS.mono ?_; rintro e w2 ⟨rfl, b2⟩))
            go_roundw
            case rel => exact ⟨j + 1, by omega, by go_num, by rw [dirs_succ, HD2.out]; exact hS _ _ _ hJk (below_new b2 _)⟩
            case measure => simp [intOf]; omega
      · obtain rfl : j = 4 := by omega
        have cc := hC _ _ hJ
        obtain ⟨IH, hIH⟩ : ∃ I : World → Prop, I = fun u' => Below wr.heap.size wr u' := ⟨_, rfl⟩
        have k0 : ∀ u', IH u' → u'.cell? ⟨Bp, 0, none⟩ = some (.int .i64 x) := fun u' hu => by rw [hIH] at hu; exact cell_of (cc.go hu).bp 0
        have k1 : ∀ u', IH u' → u'.cell? ⟨Bp, 1, none⟩ = some (.int .i64 y) := fun u' hu => by rw [hIH] at hu; exact cell_of (cc.go hu).bp 1
        have k2 : ∀ u', IH u' → u'.cell? ⟨Bp, 2, none⟩ = some (.bool d) := fun u' hu => by rw [hIH] at hu; exact cell_of (cc.go hu).bp 2
        have hS0 : IH wr.drew := by rw [hIH]; exact (Below.refl _ _).drew
        have cT := fun u' => turned_call x y d u'
        have cLg := fun wx (hb : Below wr.heap.size wr wx) => legal_any g u W H us vp (turnM ((x, y), d)) wx (cc.grid.go hb)
        have HLast : Hid (lastP W H us ((x, y), d) = if legalU W H us (turnM ((x, y), d)) then [turnM ((x, y), d)] else []) := rfl
        unfold turnM turnP at cLg HLast
        unfold moveCs at cLg
        simp only at cLg HLast
        obtain ⟨mv, hmv⟩ : ∃ mv : Move, mv = (2, 0, 0, ((x, y), d), ((x, y), !d), 0, 0) := ⟨_, rfl⟩
        rw [← hmv] at HLast
        have HMVE : Hid (mv = ((2 : Int), (0 : Int), (0 : Int), ((x, y), d), ((x, y), !d), (0 : Int), (0 : Int))) := hmv
        rw [← hmv] at cLg
        clear hmv
        go_wp2
        refine start_held (S := IH) 6 rfl (by kernel_rfl) (hS0) ?_
        simp only [Array.replicate_succ, Array.replicate_zero, List.push_toArray, List.nil_append, List.cons_append]
        refine take_held 0 (by assumption) rfl (by kernel_rfl) (by kernel_rfl) (by kernel_rfl) (fun _ _ _ h => h) (by kernel_rfl) (v := ?v0) ?y0 ?r0
        case y0 => (intro u hu; have z0 := k0 u hu; have z1 := k1 u hu; have z2 := k2 u hu; go_simp; try rfl)
        simp only [Act.put, List.setIfInBounds_toArray, List.set_cons_zero, List.set_cons_succ]
        refine take_held 1 (by assumption) rfl (by kernel_rfl) (by kernel_rfl) (by kernel_rfl) (fun _ _ _ h => h) (by kernel_rfl) (v := ?v1) ?y1 ?r1
        case y1 => (intro u hu; have z0 := k0 u hu; have z1 := k1 u hu; have z2 := k2 u hu; go_simp; try rfl)
        simp only [Act.put, List.setIfInBounds_toArray, List.set_cons_zero, List.set_cons_succ]
        refine wpAnyH_ready (rs := [2, 4]) (by kernel_rfl) (by simp) (AllReadyH.cons ((nth_eq _ 2).trans rfl) ?_ (AllReadyH.cons ((nth_eq _ 4).trans rfl) ?_ AllReadyH.nil))
        · intro K' hK
          refine call_in hK (by kernel_rfl) 81 #[.agg #[.int .i64 x, .int .i64 y, .bool d]] (by go_simp) _ (cT wr.drew) ?_
          rintro v w5 ⟨rfl, b5⟩
          have B5 : Below wr.heap.size wr w5 := ((Below.refl _ _).drew).trans b5
          have hS5 : IH w5 := by rw [hIH]; exact B5
          refine ⟨hS5, ?_⟩
          simp only [Act.put, List.setIfInBounds_toArray, List.set_cons_zero, List.set_cons_succ]
          refine take_held 3 (by assumption) rfl (by kernel_rfl) (by kernel_rfl) (by kernel_rfl) (fun _ _ _ h => h) (by kernel_rfl) (v := ?v2) ?y2 ?r2
          case y2 => (intro u hu; go_simp; try rfl)
          simp only [Act.put, List.setIfInBounds_toArray, List.set_cons_zero, List.set_cons_succ]
          have B6 := below_new B5 (.cells #[.int .i64 0, .int .i64 0, .int .i64 0, .int .i64 0, .int .i64 0, .bool false, .int .i64 0, .int .i64 0, .bool false, .int .i64 0, .int .i64 0] 56)
          refine value_held 4 rfl (by kernel_rfl) (by kernel_rfl) (.pointer (some ⟨w5.heap.size, 0, none⟩)) (w5.alloc (.cells #[.int .i64 0, .int .i64 0, .int .i64 0, .int .i64 0, .int .i64 0, .bool false, .int .i64 0, .int .i64 0, .bool false, .int .i64 0, .int .i64 0] 56)) (by go_simp; try rfl) (by rw [hIH]; exact B6) ?_
          simp only [Act.put, List.setIfInBounds_toArray, List.set_cons_zero, List.set_cons_succ]
          have hst : (storeVar 56 ⟨w5.heap.size, 0, none⟩ (.agg #[.int .i64 2, .int .i64 0, .int .i64 0, .int .i64 x, .int .i64 y, .bool d, .int .i64 x, .int .i64 y, .bool (!d), .int .i64 0, .int .i64 0])).run Try.prog (w5.alloc (.cells #[.int .i64 0, .int .i64 0, .int .i64 0, .int .i64 0, .int .i64 0, .bool false, .int .i64 0, .int .i64 0, .bool false, .int .i64 0, .int .i64 0] 56)) = .ok () ((w5.alloc (.cells #[.int .i64 0, .int .i64 0, .int .i64 0, .int .i64 0, .int .i64 0, .bool false, .int .i64 0, .int .i64 0, .bool false, .int .i64 0, .int .i64 0] 56)).setRow w5.heap.size #[.int .i64 2, .int .i64 0, .int .i64 0, .int .i64 x, .int .i64 y, .bool d, .int .i64 x, .int .i64 y, .bool (!d), .int .i64 0, .int .i64 0]) := run_storeVar_row _ _ 56 _ #[.int .i64 0, .int .i64 0, .int .i64 0, .int .i64 0, .int .i64 0, .bool false, .int .i64 0, .int .i64 0, .bool false, .int .i64 0, .int .i64 0] _ (heap_alloc_new _ _) info_move rfl (by simp [Value.oneCell'])
          have B7 := below_row B6 B5.size #[.int .i64 2, .int .i64 0, .int .i64 0, .int .i64 x, .int .i64 y, .bool d, .int .i64 x, .int .i64 y, .bool (!d), .int .i64 0, .int .i64 0]
          refine store_held 5 rfl (by kernel_rfl) (by kernel_rfl) _ (run_store_op 56 (.tmp 8) (.tmp 46) rfl w5.heap.size _ rfl rfl hst) (by rw [hIH]; exact B7) ?_
          simp only [Act.put, List.setIfInBounds_toArray, List.set_cons_zero, List.set_cons_succ]
          refine done_held (by kernel_rfl) ?_ _
          have cl8 := cLg _ B7
          have cY := fun wx (hb : Below wr.heap.size wr wx) (hp) => hY (dirsP W H us ((x, y), d) 4) mv wx (hS _ _ _ hJ hb) hp
          have g9 : ((w5.alloc (.cells #[.int .i64 0, .int .i64 0, .int .i64 0, .int .i64 0, .int .i64 0, .bool false, .int .i64 0, .int .i64 0, .bool false, .int .i64 0, .int .i64 0] 56)).setRow w5.heap.size #[.int .i64 2, .int .i64 0, .int .i64 0, .int .i64 x, .int .i64 y, .bool d, .int .i64 x, .int .i64 y, .bool (!d), .int .i64 0, .int .i64 0]).cell? ⟨Bg, 0, none⟩ = some (.pointer (some ⟨g, 0, none⟩)) := cell_of (cc.go B7).bg 0
          have m8 := setRow_heap (w5.alloc (.cells #[.int .i64 0, .int .i64 0, .int .i64 0, .int .i64 0, .int .i64 0, .bool false, .int .i64 0, .int .i64 0, .bool false, .int .i64 0, .int .i64 0] 56)) w5.heap.size _ #[.int .i64 2, .int .i64 0, .int .i64 0, .int .i64 x, .int .i64 y, .bool d, .int .i64 x, .int .i64 y, .bool (!d), .int .i64 0, .int .i64 0] _ _ (heap_alloc_new _ _)
          generalize hWW : (w5.alloc (.cells #[.int .i64 0, .int .i64 0, .int .i64 0, .int .i64 0, .int .i64 0, .bool false, .int .i64 0, .int .i64 0, .bool false, .int .i64 0, .int .i64 0] 56)).setRow w5.heap.size #[.int .i64 2, .int .i64 0, .int .i64 0, .int .i64 x, .int .i64 y, .bool d, .int .i64 x, .int .i64 y, .bool (!d), .int .i64 0, .int .i64 0] = WW at *
          clear hWW
          cases hlg : legalU W H us mv
          · rw [hlg] at cl8
            have HL2 : Hid (movesP W H us ((x, y), d) = dirsP W H us ((x, y), d) 4) := by
              show _ = _
              rw [HMV.out, HLast.out, if_neg (by rw [hlg]; decide), List.append_nil]
            go_wp2_with (first
              | (refine wpList_load_row rfl 56 (.tmp 8) rfl (w5.heap.size) rfl 56 #[.int .i64 2, .int .i64 0, .int .i64 0, .int .i64 x, .int .i64 y, .bool d, .int .i64 x, .int .i64 y, .bool (!d), .int .i64 0, .int .i64 0] (0, 0) _ m8 Try.underlying56 rfl info_move ?_)
              | (go_at_call 29; refine cl8.mono ?_; rintro e w9 ⟨rfl, b9⟩))
            rw [Exit.noGoto_normal]
            go_end0
            exact ⟨rfl, Or.inl (by rw [HL2.out]; exact hS _ _ _ hJ (bcat B7 b9 (Nat.le_refl _)))⟩
          · rw [hlg] at cl8
            have HL2 : Hid (movesP W H us ((x, y), d) = dirsP W H us ((x, y), d) 4 ++ [mv]) := by
              show _ = _
              rw [HMV.out, HLast.out, if_pos hlg]
            have cY2 := fun wx (hb : Below wr.heap.size wr wx) => cY wx hb (by rw [HL2.out]; exact List.prefix_rfl)
            rw [HMVE.out] at cY2
            unfold moveCs at cY2
            simp only at cY2
            rw [← HMVE.out] at cY2
            go_wp2_with (first
              | (have X' := b9; refine wpList_load_row rfl 56 (.tmp 8) rfl (w5.heap.size) rfl 56 #[.int .i64 2, .int .i64 0, .int .i64 0, .int .i64 x, .int .i64 y, .bool d, .int .i64 x, .int .i64 y, .bool (!d), .int .i64 0, .int .i64 0] (0, 0) _ ((b9.block _ (lt_of_heap m8)).trans m8) Try.underlying56 rfl info_move ?_)
              | (refine wpList_load_row rfl 56 (.tmp 8) rfl (w5.heap.size) rfl 56 #[.int .i64 2, .int .i64 0, .int .i64 0, .int .i64 x, .int .i64 y, .bool d, .int .i64 x, .int .i64 y, .bool (!d), .int .i64 0, .int .i64 0] (0, 0) _ m8 Try.underlying56 rfl info_move ?_)
              | (go_at_call 29; refine cl8.mono ?_; rintro e w9 ⟨rfl, b9⟩))
            refine (cY2 w9 (bcat B7 b9 (Nat.le_refl _))).mono ?_
            rintro e w10 (⟨rfl, hJ10⟩ | ⟨rfl, hJx10⟩)
            · go_wp2
              rw [Exit.noGoto_normal]
              go_end0
              exact ⟨rfl, Or.inl (by rw [HL2.out]; exact hJ10)⟩
            · go_wp2
              rw [Exit.noGoto_normal]
              go_end0
              exact ⟨rfl, Or.inr ⟨_, by rw [HL2.out]; exact List.prefix_rfl, hJx10⟩⟩
        · intro K' hK
          have B5 := below_new ((Below.refl wr.heap.size wr).drew) (.cells #[.int .i64 0, .int .i64 0, .int .i64 0, .int .i64 0, .int .i64 0, .bool false, .int .i64 0, .int .i64 0, .bool false, .int .i64 0, .int .i64 0] 56)
          have hS5 : IH (wr.drew.alloc (.cells #[.int .i64 0, .int .i64 0, .int .i64 0, .int .i64 0, .int .i64 0, .bool false, .int .i64 0, .int .i64 0, .bool false, .int .i64 0, .int .i64 0] 56)) := by rw [hIH]; exact B5
          refine value_in hK (by kernel_rfl) (.pointer (some ⟨wr.heap.size, 0, none⟩)) (wr.drew.alloc (.cells #[.int .i64 0, .int .i64 0, .int .i64 0, .int .i64 0, .int .i64 0, .bool false, .int .i64 0, .int .i64 0, .bool false, .int .i64 0, .int .i64 0] 56)) (by go_simp; try rfl) hS5 ?_
          simp only [Act.put, List.setIfInBounds_toArray, List.set_cons_zero, List.set_cons_succ]
          have hn5 : (wr.drew.alloc (.cells #[.int .i64 0, .int .i64 0, .int .i64 0, .int .i64 0, .int .i64 0, .bool false, .int .i64 0, .int .i64 0, .bool false, .int .i64 0, .int .i64 0] 56)).heap[wr.heap.size]? = some (.cells #[.int .i64 0, .int .i64 0, .int .i64 0, .int .i64 0, .int .i64 0, .bool false, .int .i64 0, .int .i64 0, .bool false, .int .i64 0, .int .i64 0] 56 (0, 0)) := heap_alloc_new _ _
          generalize hU : wr.drew.alloc (.cells #[.int .i64 0, .int .i64 0, .int .i64 0, .int .i64 0, .int .i64 0, .bool false, .int .i64 0, .int .i64 0, .bool false, .int .i64 0, .int .i64 0] 56) = w4 at *
          refine wpAnyH_ready (rs := [2]) (by kernel_rfl) (by simp) (AllReadyH.cons ((nth_eq _ 2).trans rfl) ?_ AllReadyH.nil)
          intro K' hK
          refine call_in hK (by kernel_rfl) 81 #[.agg #[.int .i64 x, .int .i64 y, .bool d]] (by go_simp) _ (cT w4) ?_
          rintro v w5 ⟨rfl, b5⟩
          have B6 : Below wr.heap.size wr w5 := bcat B5 b5 (Nat.le_refl _)
          have hS6 : IH w5 := by rw [hIH]; exact B6
          have hn6 := (b5.block _ (lt_of_heap hn5)).trans hn5
          refine ⟨hS6, ?_⟩
          simp only [Act.put, List.setIfInBounds_toArray, List.set_cons_zero, List.set_cons_succ]
          refine take_held 3 (by assumption) rfl (by kernel_rfl) (by kernel_rfl) (by kernel_rfl) (fun _ _ _ h => h) (by kernel_rfl) (v := ?v3) ?y3 ?r3
          case y3 => (intro u hu; go_simp; try rfl)
          simp only [Act.put, List.setIfInBounds_toArray, List.set_cons_zero, List.set_cons_succ]
          have hst : (storeVar 56 ⟨wr.heap.size, 0, none⟩ (.agg #[.int .i64 2, .int .i64 0, .int .i64 0, .int .i64 x, .int .i64 y, .bool d, .int .i64 x, .int .i64 y, .bool (!d), .int .i64 0, .int .i64 0])).run Try.prog w5 = .ok () (w5.setRow wr.heap.size #[.int .i64 2, .int .i64 0, .int .i64 0, .int .i64 x, .int .i64 y, .bool d, .int .i64 x, .int .i64 y, .bool (!d), .int .i64 0, .int .i64 0]) := run_storeVar_row _ _ 56 _ #[.int .i64 0, .int .i64 0, .int .i64 0, .int .i64 0, .int .i64 0, .bool false, .int .i64 0, .int .i64 0, .bool false, .int .i64 0, .int .i64 0] _ hn6 info_move rfl (by simp [Value.oneCell'])
          have B7 := below_row B6 (Nat.le_refl _) #[.int .i64 2, .int .i64 0, .int .i64 0, .int .i64 x, .int .i64 y, .bool d, .int .i64 x, .int .i64 y, .bool (!d), .int .i64 0, .int .i64 0]
          refine store_held 5 rfl (by kernel_rfl) (by kernel_rfl) _ (run_store_op 56 (.tmp 8) (.tmp 46) rfl wr.heap.size _ rfl rfl hst) (by rw [hIH]; exact B7) ?_
          simp only [Act.put, List.setIfInBounds_toArray, List.set_cons_zero, List.set_cons_succ]
          refine done_held (by kernel_rfl) ?_ _
          have cl8 := cLg _ B7
          have cY := fun wx (hb : Below wr.heap.size wr wx) (hp) => hY (dirsP W H us ((x, y), d) 4) mv wx (hS _ _ _ hJ hb) hp
          have g9 : (w5.setRow wr.heap.size #[.int .i64 2, .int .i64 0, .int .i64 0, .int .i64 x, .int .i64 y, .bool d, .int .i64 x, .int .i64 y, .bool (!d), .int .i64 0, .int .i64 0]).cell? ⟨Bg, 0, none⟩ = some (.pointer (some ⟨g, 0, none⟩)) := cell_of (cc.go B7).bg 0
          have m8 := setRow_heap w5 wr.heap.size _ #[.int .i64 2, .int .i64 0, .int .i64 0, .int .i64 x, .int .i64 y, .bool d, .int .i64 x, .int .i64 y, .bool (!d), .int .i64 0, .int .i64 0] _ _ hn6
          generalize hWW : w5.setRow wr.heap.size #[.int .i64 2, .int .i64 0, .int .i64 0, .int .i64 x, .int .i64 y, .bool d, .int .i64 x, .int .i64 y, .bool (!d), .int .i64 0, .int .i64 0] = WW at *
          clear hWW
          cases hlg : legalU W H us mv
          · rw [hlg] at cl8
            have HL2 : Hid (movesP W H us ((x, y), d) = dirsP W H us ((x, y), d) 4) := by
              show _ = _
              rw [HMV.out, HLast.out, if_neg (by rw [hlg]; decide), List.append_nil]
            go_wp2_with (first
              | (refine wpList_load_row rfl 56 (.tmp 8) rfl (wr.heap.size) rfl 56 #[.int .i64 2, .int .i64 0, .int .i64 0, .int .i64 x, .int .i64 y, .bool d, .int .i64 x, .int .i64 y, .bool (!d), .int .i64 0, .int .i64 0] (0, 0) _ m8 Try.underlying56 rfl info_move ?_)
              | (go_at_call 29; refine cl8.mono ?_; rintro e w9 ⟨rfl, b9⟩))
            rw [Exit.noGoto_normal]
            go_end0
            exact ⟨rfl, Or.inl (by rw [HL2.out]; exact hS _ _ _ hJ (bcat B7 b9 (Nat.le_refl _)))⟩
          · rw [hlg] at cl8
            have HL2 : Hid (movesP W H us ((x, y), d) = dirsP W H us ((x, y), d) 4 ++ [mv]) := by
              show _ = _
              rw [HMV.out, HLast.out, if_pos hlg]
            have cY2 := fun wx (hb : Below wr.heap.size wr wx) => cY wx hb (by rw [HL2.out]; exact List.prefix_rfl)
            rw [HMVE.out] at cY2
            unfold moveCs at cY2
            simp only at cY2
            rw [← HMVE.out] at cY2
            go_wp2_with (first
              | (have X' := b9; refine wpList_load_row rfl 56 (.tmp 8) rfl (wr.heap.size) rfl 56 #[.int .i64 2, .int .i64 0, .int .i64 0, .int .i64 x, .int .i64 y, .bool d, .int .i64 x, .int .i64 y, .bool (!d), .int .i64 0, .int .i64 0] (0, 0) _ ((b9.block _ (lt_of_heap m8)).trans m8) Try.underlying56 rfl info_move ?_)
              | (refine wpList_load_row rfl 56 (.tmp 8) rfl (wr.heap.size) rfl 56 #[.int .i64 2, .int .i64 0, .int .i64 0, .int .i64 x, .int .i64 y, .bool d, .int .i64 x, .int .i64 y, .bool (!d), .int .i64 0, .int .i64 0] (0, 0) _ m8 Try.underlying56 rfl info_move ?_)
              | (go_at_call 29; refine cl8.mono ?_; rintro e w9 ⟨rfl, b9⟩))
            refine (cY2 w9 (bcat B7 b9 (Nat.le_refl _))).mono ?_
            rintro e w10 (⟨rfl, hJ10⟩ | ⟨rfl, hJx10⟩)
            · go_wp2
              rw [Exit.noGoto_normal]
              go_end0
              exact ⟨rfl, Or.inl (by rw [HL2.out]; exact hJ10)⟩
            · go_wp2
              rw [Exit.noGoto_normal]
              go_end0
              exact ⟨rfl, Or.inr ⟨_, by rw [HL2.out]; exact List.prefix_rfl, hJx10⟩⟩
end Go.Proofs.Ytnaojlngdfolaaa.Grid
