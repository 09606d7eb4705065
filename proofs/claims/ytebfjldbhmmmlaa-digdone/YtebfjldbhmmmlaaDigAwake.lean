/-
  The document's example.
-/
import Derived.Test.YtebfjldbhmmmlaaDigJobs
namespace Go.Proofs.Ytebfjldbhmmmlaa.Dig
set_option linter.unusedVariables false
set_option linter.unusedSimpArgs false
open Go Go.RowKit Go.Shelf Go.Proofs Go.Proofs.Ytebfjldbhmmmlaa.Grid Go.Proofs.Ytebfjldbhmmmlaa.Srt
attribute [local go_sem] Oper.semAt_some

def confD : Conf := { W := 3, H := 2, height := 3, blocked := [], ports := [(2, 0)], robots := [], stacks := [], unit := 1, accel := 1, speed := 1, turn := 1, hoist := 1, queue := 1, resend := 1, budget := 1, back := true }
theorem newD : newP confD = some ⟨3, 2, [4, 4, 2, 4, 4, 0], [(2, 0)]⟩ := by
  have h1 : takeAll 3 2 1 (List.replicate ((3 : Int) * 2).toNat 0) [] = some [0, 0, 0, 0, 0, 0] := rfl
  have h1b : takeP 3 2 [0, 0, 0, 0, 0, 0] [(2, 0)] = some [0, 0, 2, 0, 0, 0] := by decide +kernel
  have h2 : stackUs 3 2 [0, 0, 2, 0, 0, 0] = [4, 4, 2, 4, 4, 0] := by decide +kernel
  have h3 : mayBeP [] := ⟨by simp, by simp, List.nodup_nil⟩
  have h4 : limited confD = true := by decide +kernel
  unfold newP
  rw [if_pos h4]
  simp only [confD, h1, Option.bind_some, List.length_nil, List.length_cons, Nat.zero_le, if_true, h1b, takeR, h2, carry]
  rw [if_pos (by decide)]
  simp only [Option.bind_some, h1b, h2]
  rw [if_pos h3]
def stksD : List Stk := [((0, 0), [7, 8, 9])]
theorem cellsD : stkUpTo 3 [4, 4, 2, 4, 4, 0] 6 = [(0, 0), (1, 0), (0, 1), (1, 1)] := by decide +kernel
theorem pileD (x : Cell) : pileOf stksD x = if x = (0, 0) then [7, 8, 9] else [] := by
  unfold stksD
  rw [pile_cons, pile_nil]
  by_cases h : x = (0, 0)
  · rw [if_pos h, if_pos h.symm]
  · rw [if_neg h, if_neg (fun e => h e.symm)]
theorem spots_ge {room : Cell → Nat} {S : List Cell} {x : Cell} (h : x ∈ S) : room x ≤ (spots room S).length := by
  induction S with
  | nil => simp at h
  | cons a S ih =>
    rw [spots_cons, List.length_append, List.length_replicate]
    rcases List.mem_cons.1 h with rfl | h
    · omega
    · have := ih h; omega
theorem jobsD {r : List Jb} {e : Int} (h : JobsR [(2, 0)] stksD 3 (stkUpTo 3 [4, 4, 2, 4, 4, 0] 6) [] true 7 (2, 0) r e) : e = 0 ∧ ∃ a b : Cell, r = [(1, 9, (0, 0), a), (1, 8, (0, 0), b), (2, 7, (0, 0), (2, 0)), (3, 8, b, (0, 0)), (3, 9, a, (0, 0))] := by
  rw [cellsD] at h
  rcases h with ⟨h, _⟩ | ⟨_, ⟨h, _⟩ | ⟨x, j, hA, ⟨h, _⟩ | ⟨_, P, hP, h⟩⟩⟩
  · exact absurd h (by decide)
  · exact absurd (h (0, 0) (by simp)) (by rw [pileD]; simp)
  · simp at h
  · have h1 := hA.here
    have hx : x = (0, 0) := by
      by_cases q : x = (0, 0)
      · exact q
      · rw [pileD, if_neg q] at h1
        simp at h1
    subst hx
    rw [pileD, if_pos rfl] at h1
    have hj : j = 0 := by
      match j, h1 with
      | 0, _ => rfl
      | 1, h => simp at h
      | 2, h => simp at h
      | k + 3, h => simp at h
    subst hj
    have hd : (pileOf stksD (0, 0)).drop (0 + 1) = [8, 9] := by rw [pileD, if_pos rfl]; rfl
    rw [hd] at h
    have hl : 3 ≤ P.length := by
      obtain ⟨Ss, hs, rfl⟩ := hP
      have hn : ([(0, 0), (1, 0), (0, 1), (1, 1)] : List Cell).Nodup := by decide
      have hm := ((sorted_before hn (p := fun x => !decide (x = (0, 0)) && !decide (x ∈ ([] : List Cell))) hs).2.2 (1, 0)).2 (by decide)
      have := spots_ge (room := roomOf stksD 3) hm
      have e : roomOf stksD 3 (1, 0) = 3 := by unfold roomOf; rw [pileD]; rfl
      omega
    rcases h with ⟨h, _⟩ | ⟨_, _, rfl, rfl⟩
    · simp at h; omega
    · refine ⟨rfl, P.getD 0 (0, 0), P.getD 1 (0, 0), ?_⟩
      rfl
set_option maxRecDepth 100000 in
theorem confD_any (w : World) : Calls Try.prog 15 #[] w fun e w' => ∃ b, e = .returned (.agg #[.int .i64 3, .int .i64 2, .int .i64 3, .slice none 0 0, .slice (some ⟨b, 0, none⟩) 1 1, .slice none 0 0, .slice none 0 0, .int .i64 1, .int .i64 1, .int .i64 1, .int .i64 1, .int .i64 1, .int .i64 1, .int .i64 1, .int .i64 1, .bool true]) ∧ w.heap.size ≤ b ∧ w'.heap[b]? = some (.cells #[.int .i64 2, .int .i64 0] 30 (0, 0)) ∧ Below w.heap.size w w' := by
  go_enter Try.func15, Try.ntmps15
  go_wp2
  exact bodyPost_ret (results_cell_row rfl _ _ w.heap.size 26 _ (0, 0) _ rfl ((alloc_old _ _ _ (by simp)).trans (heap_alloc_new _ _)) Try.underlying26 rfl info_conf) rfl ⟨w.heap.size + 1, rfl, by omega, heap_new2 _ _ _, below_two _ _ _⟩
/- The cells of a row of one's own. -/
theorem own_cells9 {w : World} {base : Nat} {v : Value} {r : List Jb} {n : Nat} (h : w.ownsRow base 41 9 v r.length (rowL jobL r)) (hn : r.length = n) (h0 : 0 < n) : ∃ gb cap, v = .slice (some ⟨gb, 0, none⟩) n cap ∧ ∀ i, i < n * 9 → w.cell? ⟨gb, i, none⟩ = (rowL jobL r)[i]? := by
  rcases h.2 with ⟨e, h1⟩ | ⟨gb, cap, cur, e, _, h2, h3, h4, h5, h6⟩
  · omega
  · refine ⟨gb, cap, by rw [e, hn], fun i hi => ?_⟩
    rw [cell_of h2, ← h6, List.getElem?_take_of_lt (by rw [hn]; exact hi), Array.getElem?_toList]
theorem list_ints3 {w : World} {g : Nat} {x y z : Int} {t : TypeId} (h : w.heap[g]? = some (.cells #[.int .i64 x, .int .i64 y, .int .i64 z] t (0, 0))) (F : Nat → Prop) (hF : F g) : ListAt 1 intEl F [x, y, z] (.slice (some ⟨g, 0, none⟩) 3 3) w := by
  refine ⟨some ⟨g, 0, none⟩, 3, [(x, #[.int .i64 x]), (y, #[.int .i64 y]), (z, #[.int .i64 z])], rfl, rfl, fun q hq => ?_, fun i hi => ⟨_, rfl, hF, fun j u hj => ?_⟩, fun h => by cases h⟩
  · simp only [List.mem_cons, List.not_mem_nil, or_false] at hq
    rcases hq with rfl | rfl | rfl <;> rfl
  · have e : ((⟨g, 0, none⟩ : Addr).add (i * 1 + j)) = ⟨g, i * 1 + j, none⟩ := by unfold Addr.add; split <;> simp_all
    rw [e, cell_of h]
    match i, hi, j, hj with
    | 0, _, 0, h => exact h
    | 1, _, 0, h => exact h
    | 2, _, 0, h => exact h
    | 0, _, k + 1, h => simp at h
    | 1, _, k + 1, h => simp at h
    | 2, _, k + 1, h => simp at h
theorem list_stk1 {w : World} {g : Nat} {x : Cell} {bs : List Int} {a : Option Addr} {n cap : Nat} {t : TypeId} (h : w.heap[g]? = some (.cells #[.int .i64 x.1, .int .i64 x.2, .slice a n cap] t (0, 0))) (F : Nat → Prop) (hF : F g) (hn : n = bs.length) (hc : n ≤ cap) (hL : ListAt 1 intEl F bs (.slice a n cap) w) : ListAt 3 stackElC F [(x, bs)] (.slice (some ⟨g, 0, none⟩) 1 1) w := by
  subst hn
  refine ⟨some ⟨g, 0, none⟩, 1, [((x, bs), #[.int .i64 x.1, .int .i64 x.2, .slice a bs.length cap])], rfl, rfl, fun q hq => ?_, fun i hi => ⟨_, rfl, hF, fun j u hj => ?_⟩, fun h => by cases h⟩
  · rw [List.mem_singleton.1 hq]
    exact ⟨a, cap, rfl, hc, hL⟩
  · obtain rfl : i = 0 := by simpa using hi
    have e : ((⟨g, 0, none⟩ : Addr).add (0 * 3 + j)) = ⟨g, j, none⟩ := by unfold Addr.add; split <;> simp_all
    rw [e, cell_of h]
    exact hj
theorem list_cell1 {w : World} {g : Nat} {x : Cell} {t : TypeId} (h : w.heap[g]? = some (.cells #[.int .i64 x.1, .int .i64 x.2] t (0, 0))) (F : Nat → Prop) (hF : F g) : ListAt 2 cellEl F [x] (.slice (some ⟨g, 0, none⟩) 1 1) w := by
  refine ⟨some ⟨g, 0, none⟩, 1, [(x, #[.int .i64 x.1, .int .i64 x.2])], rfl, rfl, fun q hq => ?_, fun i hi => ⟨_, rfl, hF, fun j u hj => ?_⟩, fun h => by cases h⟩
  · rw [List.mem_singleton.1 hq]
    rfl
  · obtain rfl : i = 0 := by simpa using hi
    have e : ((⟨g, 0, none⟩ : Addr).add (0 * 2 + j)) = ⟨g, j, none⟩ := by unfold Addr.add; split <;> simp_all
    rw [e, cell_of h]
    exact hj
theorem pileD_len (x : Cell) : (pileOf stksD x).length ≤ 17592186044416 := by rw [pileD]; split <;> simp
theorem jobsD_any (b i s : Nat) (w : World) (hb : w.heap[b]? = some (.cells #[.int .i64 2, .int .i64 0] 30 (0, 0))) (hi : w.heap[i]? = some (.cells #[.int .i64 7, .int .i64 8, .int .i64 9] 3 (0, 0))) (hs : w.heap[s]? = some (.cells #[.int .i64 0, .int .i64 0, .slice (some ⟨i, 0, none⟩) 3 3] 45 (0, 0))) :
    Calls Try.prog 7 #[.agg #[.int .i64 3, .int .i64 2, .int .i64 3, .slice none 0 0, .slice (some ⟨b, 0, none⟩) 1 1, .slice none 0 0, .slice none 0 0, .int .i64 1, .int .i64 1, .int .i64 1, .int .i64 1, .int .i64 1, .int .i64 1, .int .i64 1, .int .i64 1, .bool true], .slice (some ⟨s, 0, none⟩) 1 1, .slice none 0 0, .int .i64 7, .agg #[.int .i64 2, .int .i64 0]] w fun e w' => ∃ v a b, e = .returned (.tuple #[v, .int .i64 0]) ∧ w'.ownsRow w.heap.size 41 9 v 5 (rowL jobL [(1, 9, (0, 0), a), (1, 8, (0, 0), b), (2, 7, (0, 0), (2, 0)), (3, 8, b, (0, 0)), (3, 9, a, (0, 0))]) ∧ Below w.heap.size w w' := by
  have lb := lt_of_heap hb
  have li := lt_of_heap hi
  have ls := lt_of_heap hs
  have hA : ConfAt (fun q => q = b) confD (.slice none 0 0) (.slice (some ⟨b, 0, none⟩) 1 1) (.slice none 0 0) (.slice none 0 0) w := ⟨ListAt.nil _ _ _ _, list_cell1 (x := (2, 0)) hb _ rfl, ListAt.nil _ _ _ _, ListAt.nil _ _ _ _⟩
  have hL : ListAt 3 stackElC (fun q => q = i ∨ q = s) stksD (.slice (some ⟨s, 0, none⟩) 1 1) w := list_stk1 (x := (0, 0)) (bs := [7, 8, 9]) hs _ (Or.inr rfl) rfl (Nat.le_refl _) (list_ints3 hi _ (Or.inl rfl))
  have cJ := jobs_some hA (fun q h => by rw [h]; exact lb) (by decide) (by decide) (by decide) (by decide) newD (fun q => q = i ∨ q = s) stksD (some ⟨s, 0, none⟩) 1 1 hL (fun q h => by rcases h with h | h <;> (rw [h]; assumption)) (by omega) pileD_len (fun _ => False) [] none 0 0 (ListAt.nil _ _ _ _) (fun _ h => h.elim) (by omega) 7 (2, 0)
  refine Calls.mono (show Calls Try.prog 7 #[.agg #[.int .i64 3, .int .i64 2, .int .i64 3, .slice none 0 0, .slice (some ⟨b, 0, none⟩) 1 1, .slice none 0 0, .slice none 0 0, .int .i64 1, .int .i64 1, .int .i64 1, .int .i64 1, .int .i64 1, .int .i64 1, .int .i64 1, .int .i64 1, .bool true], .slice (some ⟨s, 0, none⟩) 1 1, .slice none 0 0, .int .i64 7, .agg #[.int .i64 2, .int .i64 0]] w _ from cJ) ?_
  rintro e w' ⟨rv, rfl, ⟨r, v, ee, rfl, hR, hO⟩, bw⟩
  obtain ⟨rfl, a, b', rfl⟩ := jobsD hR
  exact ⟨v, a, b', rfl, hO, bw⟩
set_option maxRecDepth 100000 in
set_option maxHeartbeats 2000000 in
theorem awake14_any (w : World) : Calls Try.prog 5 #[] w fun e w' => ∃ r, e = .returned r ∧ (r = .bool true ∧ Below w.heap.size w w') := by
  have cC := confD_any w
  go_enter Try.func5, Try.ntmps5
  go_upto_region 2 with (first
    | (go_at_call 15; refine cC.mono ?_; rintro e w1 ⟨b, rfl, hb, hcb, b1⟩)
    | (go_at_call 7; have b3 := below_two w1 (.cells #[.int .i64 7, .int .i64 8, .int .i64 9] 3) (.cells #[.int .i64 0, .int .i64 0, .slice (some ⟨w1.heap.size, 0, none⟩) 3 3] 45); have cJ := jobsD_any b w1.heap.size (w1.heap.size + 1) _ ((b3.block _ (lt_of_heap hcb)).trans hcb) ((alloc_old _ _ _ (by simp)).trans (heap_alloc_new w1 (.cells #[.int .i64 7, .int .i64 8, .int .i64 9] 3))) (heap_new2 w1 (.cells #[.int .i64 7, .int .i64 8, .int .i64 9] 3) (.cells #[.int .i64 0, .int .i64 0, .slice (some ⟨w1.heap.size, 0, none⟩) 3 3] 45)); refine cJ.mono ?_; rintro e w4 ⟨v, p, q, rfl, own, b4⟩))
  obtain ⟨gb, cap, hv, hcell⟩ := own_cells9 (n := 5) own rfl (by decide)
  subst hv
  have k1 : w4.cell? ⟨gb, 1, none⟩ = some (.int .i64 1) := hcell 1 (by decide)
  have k2 : w4.cell? ⟨gb, 3, none⟩ = some (.int .i64 9) := hcell 3 (by decide)
  have k3 : w4.cell? ⟨gb, 12, none⟩ = some (.int .i64 8) := hcell 12 (by decide)
  have k4 : w4.cell? ⟨gb, 19, none⟩ = some (.int .i64 2) := hcell 19 (by decide)
  have k5 : w4.cell? ⟨gb, 21, none⟩ = some (.int .i64 7) := hcell 21 (by decide)
  have k6 : w4.cell? ⟨gb, 28, none⟩ = some (.int .i64 3) := hcell 28 (by decide)
  have k7 : w4.cell? ⟨gb, 30, none⟩ = some (.int .i64 8) := hcell 30 (by decide)
  have k8 : w4.cell? ⟨gb, 39, none⟩ = some (.int .i64 9) := hcell 39 (by decide)
  clear own hcell
  go_wp2_with fail
  go_ret
  exact ⟨_, rfl, rfl, bcat (bcat b1 b3 (Nat.le_refl _)) b4 (Nat.le_refl _)⟩
end Go.Proofs.Ytebfjldbhmmmlaa.Dig
