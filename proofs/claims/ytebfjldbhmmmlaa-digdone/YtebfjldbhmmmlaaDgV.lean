/-
  Where a bin from a cell may be put.
  The first place in plain words: it may be, and none that may be is nearer.
-/
import Derived.Test.YtebfjldbhmmmlaaDigNewYard
import Derived.Test.YtebfjldbhmmmlaaDigPlaces
namespace Go.Proofs.Ytebfjldbhmmmlaa.Dig
set_option linter.unusedVariables false
set_option linter.unusedSimpArgs false
open Go Go.RowKit Go.Shelf Go.Proofs Go.Proofs.Ytebfjldbhmmmlaa.Grid Go.Proofs.Ytebfjldbhmmmlaa.Srt
attribute [local go_sem] Oper.semAt_some

theorem results_cell_tmp {fn : Func} {p q : Tmp} {ty : TypeId} (h : fn.results = #[.cell p ty, .tmp q]) (tmps : Array Value) (w : World) (N : Nat) (cs : Array Value)
    (hp : tmps.getD p undef = .pointer (some ⟨N, 0, none⟩)) (hg : (loadVar ty ⟨N, 0, none⟩).run Try.prog w = .ok (.agg cs) w) :
    (results fn tmps).run Try.prog w = .ok (.tuple #[.agg cs, tmps.getD q undef]) w := by
  have hp' : tmps[p]?.getD undef = .pointer (some ⟨N, 0, none⟩) := by simpa using hp
  simp [results, h, hp', asAddr, hg]
theorem load_cell2 (w : World) (g : Nat) (cs : Array Value) (hs : cs.size = 2) (h : w.heap[g]? = some (.cells cs 30 (0, 0))) : (loadVar 30 ⟨g, 0, none⟩).run Try.prog w = .ok (.agg cs) w :=
  run_loadVar_row w g 30 30 cs (0, 0) _ h Try.underlying30 rfl (by rw [hs]; exact infoCell2)
/- The first of the places; the error. -/
def placeP (P : List Cell) : Cell := P.headD (0, 0)
def placeE (P : List Cell) : Int := match P with
  | [] => 14
  | _ :: _ => 0
/- The places that stand first: sorted by how far they are, each as often as it has room. -/
def Places (stks : List Stk) (height : Int) (L : List Cell) (tl : List Cell) (f : Cell) (P : List Cell) : Prop := ∃ Ss, Sorted (fun x => awayP f x) (flt f tl L) Ss ∧ P = spots (roomOf stks height) Ss
end Go.Proofs.Ytebfjldbhmmmlaa.Dig
namespace Go.Proofs.Ytebfjldbhmmmlaa.Dig
set_option linter.unusedVariables false
open Go Go.Proofs.Ytebfjldbhmmmlaa.Grid Go.Proofs.Ytebfjldbhmmmlaa.Srt

theorem stk_nodup (W : Int) (us : List Int) (k : Nat) : (stkUpTo W us k).Nodup := by
  unfold stkUpTo List.Nodup
  rw [List.pairwise_map]
  refine List.Pairwise.imp ?_ (List.Pairwise.filter _ (List.pairwise_lt_range (n := k)))
  intro a b h e
  have h1 := num_cellAt (w := W) a
  have h2 := num_cellAt (w := W) b
  rw [e] at h1
  omega
/- It is a cell where a bin may be put. -/
def MayP (stks : List Stk) (height : Int) (L tl : List Cell) (f x : Cell) : Prop := x ∈ L ∧ x ≠ f ∧ x ∉ tl ∧ ((pileOf stks x).length : Int) < height
/- How often a cell is among cells. -/
def cntC (x : Cell) (l : List Cell) : Nat := @List.count Cell instBEqOfDecidableEq x l
theorem cntC_nil (x : Cell) : cntC x [] = 0 := rfl
theorem room_pos {stks : List Stk} {height : Int} {x : Cell} : 0 < roomOf stks height x ↔ ((pileOf stks x).length : Int) < height := by unfold roomOf; omega
theorem places_best {stks : List Stk} {height : Int} {L tl : List Cell} {f : Cell} {P : List Cell} (hn : L.Nodup) (h : Places stks height L tl f P) (k : Nat) :
    (∀ hk : k < P.length, Best (before (fun x => awayP f x) L) (fun x => MayP stks height L tl f x ∧ cntC x (P.take k) < roomOf stks height x) L (P[k]'hk)) ∧ (P.length ≤ k → ∀ x, MayP stks height L tl f x → ¬ cntC x (P.take k) < roomOf stks height x) := by
  obtain ⟨Ss, hs, rfl⟩ := h
  obtain ⟨h1, h2, h3⟩ := sorted_before hn (p := fun x => !decide (x = f) && !decide (x ∈ tl)) hs
  have hm : ∀ x, x ∈ Ss ↔ x ∈ L ∧ x ≠ f ∧ x ∉ tl := fun x => by rw [h3, List.mem_filter]; simp
  obtain ⟨q1, q2⟩ := next_best (room := roomOf stks height) Ss h1 h2 k
  refine ⟨fun hk => ?_, fun hk x hx => q2 hk x ((hm x).2 ⟨hx.1, hx.2.1, hx.2.2.1⟩)⟩
  obtain ⟨b1, b2, b3⟩ := q1 hk
  have hb := (hm _).1 b1
  have hr : 0 < roomOf stks height ((spots (roomOf stks height) Ss)[k]'hk) := by have : _ < _ := b2; omega
  exact ⟨hb.1, ⟨⟨hb.1, hb.2.1, hb.2.2, room_pos.1 hr⟩, b2⟩, fun x hx hmay => b3 x ((hm x).2 ⟨hmay.1.1, hmay.1.2.1, hmay.1.2.2.1⟩) hmay.2⟩
theorem places_nil {stks : List Stk} {height : Int} {L tl : List Cell} {f : Cell} (hn : L.Nodup) (h : Places stks height L tl f []) (x : Cell) : ¬ MayP stks height L tl f x := fun hx => by
  have := (places_best hn h 0).2 (Nat.zero_le _) x hx
  exact this (by rw [List.take_nil, cntC_nil]; exact room_pos.2 hx.2.2.2)
theorem places_cons {stks : List Stk} {height : Int} {L tl : List Cell} {f p : Cell} {P : List Cell} (hn : L.Nodup) (h : Places stks height L tl f (p :: P)) : MayP stks height L tl f p ∧ ∀ x, MayP stks height L tl f x → awayP f p ≤ awayP f x := by
  obtain ⟨_, ⟨b2, _⟩, b3⟩ := (places_best hn h 0).1 (by simp)
  refine ⟨b2, fun x hx => ?_⟩
  rcases b3 x hx.1 ⟨hx, by rw [List.take_zero, cntC_nil]; exact room_pos.2 hx.2.2.2⟩ with e | e
  · rw [e]; exact Int.le_refl _
  · unfold before at e
    simp only [List.getElem_cons_zero] at e
    omega
theorem may_less {stks : List Stk} {height : Int} {L tl ml : List Cell} {f x : Cell} (h : MayP stks height L (tl ++ ml) f x) : MayP stks height L tl f x := ⟨h.1, h.2.1, fun e => h.2.2.1 (by simp [e]), h.2.2.2⟩
end Go.Proofs.Ytebfjldbhmmmlaa.Dig
