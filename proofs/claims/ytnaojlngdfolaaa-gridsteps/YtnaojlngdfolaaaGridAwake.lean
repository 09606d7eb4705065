/-
  The chapter's example.
-/
import Derived.Test.YtnaojlngdfolaaaGridGather
namespace Go.Proofs.Ytnaojlngdfolaaa.Grid
set_option linter.unusedVariables false
set_option linter.unusedSimpArgs false
open Go Go.RowKit Go.Shelf Go.Proofs

def conf0 : Conf := { W := 2, H := 2, height := 1, blocked := [], ports := [], robots := [], stacks := [], unit := 1, accel := 1, speed := 1, turn := 1, hoist := 1, queue := 1, resend := 1, budget := 1, back := false }
def nilS : Value := .slice none 0 0
set_option maxRecDepth 100000 in
theorem conf_any (w : World) : Calls Try.prog 78 #[] w fun e w' => e = .returned (.agg (confCells conf0 nilS nilS nilS nilS)) ∧ Below w.heap.size w w' := by
  go_enter Try.func78, Try.ntmps78
  go_wp2
  exact bodyPost_ret (results_cell_row rfl _ _ w.heap.size 26 _ (0, 0) _ rfl (heap_alloc_new _ _) Try.underlying26 rfl info_conf) rfl ⟨rfl, below_new (Below.refl _ _) _⟩
theorem gridMoves_any (g : Nat) (x y : Int) (d : Bool) (w : World) : Calls Try.prog 19 #[.pointer (some ⟨g, 0, none⟩), .agg #[.int .i64 x, .int .i64 y, .bool d]] w fun e w' => e = .returned (.func (.func 79) #[] #[.pointer (some ⟨w.heap.size, 0, none⟩), .pointer (some ⟨w.heap.size + 1, 0, none⟩)]) ∧
    w' = (w.alloc (.cells #[.pointer (some ⟨g, 0, none⟩)] 31)).alloc (.cells #[.int .i64 x, .int .i64 y, .bool d] 30) := by
  go_enter Try.func19, Try.ntmps19
  go_wp2
  go_ret
  exact ⟨rfl, rfl⟩
theorem ctx_new {w : World} {g u : Nat} {W H : Int} {us : List Int} {vp : Value} (hG : GridAt w g u W H us vp) (p : Pose) :
    Ctx ((w.alloc (.cells #[.pointer (some ⟨g, 0, none⟩)] 31)).alloc (.cells #[.int .i64 p.1.1, .int .i64 p.1.2, .bool p.2] 30)) g u W H us vp w.heap.size (w.heap.size + 1) p :=
  ⟨hG.go (below_two _ _ _), (alloc_old _ _ _ (by simp)).trans (heap_alloc_new w _), heap_new2 _ _ _⟩
theorem new0 : newP conf0 = some ⟨2, 2, [4, 4, 4, 0], []⟩ := by
  have h1 : takeAll 2 2 1 (List.replicate ((2 : Int) * 2).toNat 0) [] = some [0, 0, 0, 0] := rfl
  have h2 : stackUs 2 2 [0, 0, 0, 0] = [4, 4, 4, 0] := by decide +kernel
  have h3 : mayBeP [] := ⟨by simp, by simp, List.nodup_nil⟩
  have h4 : limited conf0 = true := by decide +kernel
  unfold newP
  rw [if_pos h4]
  simp only [conf0, h1, Option.bind_some, List.length_nil, Nat.zero_le, if_true, takeP, takeR, h2, carry]
  rw [if_pos h3]
theorem moves0 : (movesP 2 2 [4, 4, 4, 0] ((0, 0), false)).take (9 : Int).toNat = [(1, 2, 1, ((0, 0), false), ((0, 1), false), 0, 0), (2, 0, 0, ((0, 0), false), ((0, 0), true), 0, 0)] := by kernel_rfl
/- The cells of two moves that were told. -/
theorem own_cells {w : World} {base n cap : Nat} {a : Option Addr} {L : List Move} (h : w.ownsRow base 56 11 (.slice a n cap) n (rowL moveL L)) (hn : 0 < n) : ∃ gb, a = some ⟨gb, 0, none⟩ ∧ ∀ i, i < n * 11 → w.cell? ⟨gb, i, none⟩ = (rowL moveL L)[i]? := by
  rcases h.2 with ⟨e, h0⟩ | ⟨gb, cap', cur, e, _⟩
  · omega
  · cases e
    exact ⟨gb, rfl, fun i hi => h.cellAt i hi⟩
set_option maxRecDepth 100000 in
set_option maxHeartbeats 4000000 in
theorem awake_any (w : World) : Calls Try.prog 18 #[] w fun e w' => e = .returned (.bool true) ∧ Below w.heap.size w w' := by
  have cN := fun wx => (new_any (fun _ => False) (confCells conf0 nilS nilS nilS nilS) conf0 nilS nilS nilS nilS wx (cells_conf _ _ _ _ _) ⟨ListAt.nil _ _ _ _, ListAt.nil _ _ _ _, ListAt.nil _ _ _ _, ListAt.nil _ _ _ _⟩ (fun _ h => h.elim) (by decide) (by decide) (by decide) (by decide)).mono
    (R' := fun e w' => Below wx.heap.size wx w' ∧ ∃ g u v', e = .returned (.tuple #[.pointer (some ⟨g, 0, none⟩), .int .i64 0]) ∧ GridAt w' g u 2 2 [4, 4, 4, 0] v') (by
      rintro e w' ⟨b, ⟨G, g, u, v', q1, rfl, q2, _⟩ | ⟨q1, _⟩⟩
      · rw [new0] at q1
        cases q1
        exact ⟨b, g, u, v', rfl, q2⟩
      · rw [new0] at q1; cases q1)
  have HNum : Hid (number 2 2 (1, 1) = 3) := by unfold Hid; decide +kernel
  have cC := fun wx => conf_any wx
  generalize confCells conf0 nilS nilS nilS nilS = cs at *
  have cM := fun (wx : World) (g u : Nat) (vp : Value) (hG : GridAt wx g u 2 2 [4, 4, 4, 0] vp) => lawMoves_any g u 2 2 [4, 4, 4, 0] vp wx.heap.size (wx.heap.size + 1) 0 0 false 9 (by decide) (by decide) _ (ctx_new hG ((0, 0), false))
  rw [moves0] at cM
  have cK := fun (wx : World) (g u : Nat) (vp : Value) (hG : GridAt wx g u 2 2 [4, 4, 4, 0] vp) => number_any g u 2 2 [4, 4, 4, 0] vp 1 1 wx hG
  rw [HNum.out] at cK
  clear HNum
  go_enter Try.func18, Try.ntmps18
  go_wp2_with (first
    | (go_at_call 78; refine (cC _).mono ?_; rintro e w1 ⟨rfl, b1⟩)
    | (go_at_call 15; refine (cN _).mono ?_; rintro e w2 ⟨b2, g, u, v', rfl, G2⟩; have B2 := bcat b1 b2 (Nat.le_refl _))
    | (go_at_call 19; refine (gridMoves_any g 0 0 false _).mono ?_; rintro e w3 ⟨rfl, rfl⟩)
    | (go_at_call 25; refine (cM w2 g u v' G2).mono ?_; rintro e w4 ⟨v4, rfl, o4, b4⟩; have B4 := bcat (bcat B2 (below_two w2 _ _) (Nat.le_refl _)) b4 (Nat.le_refl _); have G4 := (G2.go (below_two w2 _ _)).go b4; obtain ⟨a4, cap4, hv4, _⟩ := own_form o4; subst hv4; obtain ⟨gb, rfl, hcl⟩ := own_cells o4 (by decide); have y0 : w4.cell? ⟨gb, 0, none⟩ = some (.int .i64 1) := (hcl 0 (by decide)).trans rfl; have y1 : w4.cell? ⟨gb, 1, none⟩ = some (.int .i64 2) := (hcl 1 (by decide)).trans rfl; have y2 : w4.cell? ⟨gb, 2, none⟩ = some (.int .i64 1) := (hcl 2 (by decide)).trans rfl; have y11 : w4.cell? ⟨gb, 11, none⟩ = some (.int .i64 2) := (hcl 11 (by decide)).trans rfl; clear hcl)
    | (go_at_call 31; refine (cK w4 g u v' G4).mono ?_; rintro e w5 ⟨rfl, b5⟩))
  go_ret
  exact ⟨rfl, bcat B4 b5 (Nat.le_refl _)⟩
end Go.Proofs.Ytnaojlngdfolaaa.Grid
