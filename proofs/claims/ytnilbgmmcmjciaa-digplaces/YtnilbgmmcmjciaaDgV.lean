/-
  Where a bin from a cell may be put.
  The first place in plain words: it may be, and none that may be is nearer.
-/
import Derived.Test.YtnilbgmmcmjciaaDigNewYard
import Derived.Test.YtnilbgmmcmjciaaDigPlaces
namespace Go.Proofs.Ytnilbgmmcmjciaa.Dig
set_option linter.unusedVariables false
set_option linter.unusedSimpArgs false
open Go Go.RowKit Go.Shelf Go.Proofs Go.Proofs.Ytnilbgmmcmjciaa.Grid Go.Proofs.Ytnilbgmmcmjciaa.Srt
attribute [local go_sem] Oper.semAt_some

theorem results_cell_tmp {fn : Func} {p q : Tmp} {ty : TypeId} (h : fn.results = #[.cell p ty, .tmp q]) (tmps : Array Value) (w : World) (N : Nat) (cs : Array Value)
    (hp : tmps.getD p undef = .pointer (some ⟨N, 0, none⟩)) (hg : (loadVar ty ⟨N, 0, none⟩).run Try.prog w = .ok (.agg cs) w) :
    (results fn tmps).run Try.prog w = .ok (.tuple #[.agg cs, tmps.getD q undef]) w := by
  have hp' : tmps[p]?.getD undef = .pointer (some ⟨N, 0, none⟩) := by simpa using hp
  simp [results, h, hp', asAddr, hg]
theorem load_cell2 (w : World) (g : Nat) (cs : Array Value) (hs : cs.size = 2) (h : w.heap[g]? = some (.cells cs 39 (0, 0))) : (loadVar 39 ⟨g, 0, none⟩).run Try.prog w = .ok (.agg cs) w :=
  run_loadVar_row w g 39 39 cs (0, 0) _ h Try.underlying39 rfl (by rw [hs]; exact infoCell2)
/- The first of the places; the error. -/
def placeP (P : List Cell) : Cell := P.headD (0, 0)
def placeE (P : List Cell) : Int := match P with
  | [] => 14
  | _ :: _ => 0
/- The places that stand first: sorted by how far they are, each as often as it has room. -/
def Places (stks : List Stk) (height : Int) (L : List Cell) (tl : List Cell) (f : Cell) (P : List Cell) : Prop := ∃ Ss, Sorted (fun x => awayP f x) (flt f tl L) Ss ∧ P = spots (roomOf stks height) Ss
set_option maxRecDepth 100000 in
set_option maxHeartbeats 2000000 in
theorem place_none {F : Nat → Prop} {c : Conf} {v1 v2 v3 v4 : Value} {w : World} (hA : ConfAt F c v1 v2 v3 v4 w) (hF : ∀ b, F b → b < w.heap.size) (l1 : c.blocked.length ≤ 8796093022208) (l2 : c.ports.length ≤ 8796093022208) (l3 : c.robots.length ≤ 5864062014805) (l4 : c.stacks.length ≤ 3518437208880) (hN : newP c = none) (sv tv : Value) (f : Cell) : Calls Try.prog 42 #[.agg #[.int .i64 c.W, .int .i64 c.H, .int .i64 c.height, v1, v2, v3, v4, .int .i64 c.unit, .int .i64 c.accel, .int .i64 c.speed, .int .i64 c.turn, .int .i64 c.hoist, .int .i64 c.queue, .int .i64 c.resend, .int .i64 c.budget, .bool c.back], sv, tv, .agg #[.int .i64 f.1, .int .i64 f.2]] w fun e w' => ∃ r, e = .returned r ∧ (r = .tuple #[.agg #[.int .i64 0, .int .i64 0], .int .i64 5] ∧ Below w.heap.size w w') := by
  obtain ⟨w3, hw3⟩ : ∃ w3, w3 = ((w.alloc (.cells #[.int .i64 c.W, .int .i64 c.H, .int .i64 c.height, v1, v2, v3, v4, .int .i64 c.unit, .int .i64 c.accel, .int .i64 c.speed, .int .i64 c.turn, .int .i64 c.hoist, .int .i64 c.queue, .int .i64 c.resend, .int .i64 c.budget, .bool c.back] 26)).alloc (.cells #[.int .i64 f.1, .int .i64 f.2] 39)).alloc (.cells #[.int .i64 0, .int .i64 0] 39) := ⟨_, rfl⟩
  have b3 : Below w.heap.size w w3 := by rw [hw3]; exact ((((Below.refl _ _).alloc (Nat.le_refl _) _).alloc (by simp) _).alloc (by simp; omega) _)
  have s3 : w3.heap.size = w.heap.size + 3 := by rw [hw3]; simp
  have hc3 : w3.heap[w.heap.size]? = some (.cells #[.int .i64 c.W, .int .i64 c.H, .int .i64 c.height, v1, v2, v3, v4, .int .i64 c.unit, .int .i64 c.accel, .int .i64 c.speed, .int .i64 c.turn, .int .i64 c.hoist, .int .i64 c.queue, .int .i64 c.resend, .int .i64 c.budget, .bool c.back] 26 (0, 0)) := by rw [hw3]; exact (alloc_old _ _ _ (by simp; omega)).trans ((alloc_old _ _ _ (by simp)).trans (heap_alloc_new w _))
  have hf3 : w3.heap[w.heap.size + 1]? = some (.cells #[.int .i64 f.1, .int .i64 f.2] 39 (0, 0)) := by rw [hw3]; exact (alloc_old _ _ _ (by simp)).trans (heap_new2 _ _ _)
  have hz3 : w3.heap[w.heap.size + 2]? = some (.cells #[.int .i64 0, .int .i64 0] 39 (0, 0)) := by
    rw [hw3, show w.heap.size + 2 = ((w.alloc (.cells #[.int .i64 c.W, .int .i64 c.H, .int .i64 c.height, v1, v2, v3, v4, .int .i64 c.unit, .int .i64 c.accel, .int .i64 c.speed, .int .i64 c.turn, .int .i64 c.hoist, .int .i64 c.queue, .int .i64 c.resend, .int .i64 c.budget, .bool c.back] 26)).alloc (.cells #[.int .i64 f.1, .int .i64 f.2] 39)).heap.size by simp]
    exact heap_alloc_new _ _
  have lF3 : ∀ b, F b → b < w3.heap.size := fun b hb => Nat.lt_of_lt_of_le (hF b hb) b3.size
  have cN := newYard_none (hA.go hF b3) lF3 l1 l2 l3 l4 hN sv
  clear hA hF
  go_enter Try.func42, Try.ntmps42
  go_upto_region 1 with fail
  rw [← hw3]
  clear hw3
  go_wp2_with (first
    | (refine wpList_load_row rfl 26 (.tmp 4) rfl w.heap.size rfl 26 _ (0, 0) _ hc3 Try.underlying26 rfl info_conf ?_)
    | (go_at_call 75; refine cN.mono ?_; rintro e w4 ⟨rfl, b4⟩; have hz4 := (b4.block _ (lt_of_heap hz3)).trans hz3)
    | (refine wpList_store_row rfl 39 (.tmp 8) (.tmp 21) rfl (w.heap.size + 2) #[.int .i64 0, .int .i64 0] rfl rfl 39 #[.int .i64 0, .int .i64 0] hz4 infoCell2 rfl (by simp [Value.oneCell']) ?_))
  exact bodyPost_ret (results_cell_tmp Try.results42 _ _ (w.heap.size + 2) _ rfl (load_cell2 _ _ _ rfl (setRow_heap _ _ _ _ _ _ hz4))) rfl ⟨_, rfl, rfl, below_row (bcat b3 b4 (Nat.le_refl _)) (by omega) _⟩
set_option maxRecDepth 100000 in
set_option maxHeartbeats 2000000 in
theorem place_some {F : Nat → Prop} {c : Conf} {v1 v2 v3 v4 : Value} {w : World} (hA : ConfAt F c v1 v2 v3 v4 w) (hF : ∀ b, F b → b < w.heap.size) (l1 : c.blocked.length ≤ 8796093022208) (l2 : c.ports.length ≤ 8796093022208) (l3 : c.robots.length ≤ 5864062014805) (l4 : c.stacks.length ≤ 3518437208880) {G : GS} (hN : newP c = some G) (Fs : Nat → Prop) (stks : List Stk) (sa : Option Addr) (sn sc : Nat) (hS : ListAt 3 stackElC Fs stks (.slice sa sn sc) w) (hFs : ∀ b, Fs b → b < w.heap.size) (hsn : sn ≤ 1000000) (hp : ∀ x, (pileOf stks x).length ≤ 17592186044416) (Ft : Nat → Prop) (tl : List Cell) (ta : Option Addr) (tn tc : Nat) (hT : ListAt 2 cellEl Ft tl (.slice ta tn tc) w) (hFt : ∀ b, Ft b → b < w.heap.size) (htn : tn ≤ 1000000) (f : Cell) :
    Calls Try.prog 42 #[.agg #[.int .i64 c.W, .int .i64 c.H, .int .i64 c.height, v1, v2, v3, v4, .int .i64 c.unit, .int .i64 c.accel, .int .i64 c.speed, .int .i64 c.turn, .int .i64 c.hoist, .int .i64 c.queue, .int .i64 c.resend, .int .i64 c.budget, .bool c.back], .slice sa sn sc, .slice ta tn tc, .agg #[.int .i64 f.1, .int .i64 f.2]] w fun e w' => ∃ r, e = .returned r ∧ (∃ P, r = .tuple #[.agg #[.int .i64 (placeP P).1, .int .i64 (placeP P).2], .int .i64 (placeE P)] ∧ Places stks c.height (stkUpTo c.W G.uses G.uses.length) tl f P) ∧ Below w.heap.size w w' := by
  obtain ⟨w3, hw3⟩ : ∃ w3, w3 = ((w.alloc (.cells #[.int .i64 c.W, .int .i64 c.H, .int .i64 c.height, v1, v2, v3, v4, .int .i64 c.unit, .int .i64 c.accel, .int .i64 c.speed, .int .i64 c.turn, .int .i64 c.hoist, .int .i64 c.queue, .int .i64 c.resend, .int .i64 c.budget, .bool c.back] 26)).alloc (.cells #[.int .i64 f.1, .int .i64 f.2] 39)).alloc (.cells #[.int .i64 0, .int .i64 0] 39) := ⟨_, rfl⟩
  have b3 : Below w.heap.size w w3 := by rw [hw3]; exact ((((Below.refl _ _).alloc (Nat.le_refl _) _).alloc (by simp) _).alloc (by simp; omega) _)
  have s3 : w3.heap.size = w.heap.size + 3 := by rw [hw3]; simp
  have hc3 : w3.heap[w.heap.size]? = some (.cells #[.int .i64 c.W, .int .i64 c.H, .int .i64 c.height, v1, v2, v3, v4, .int .i64 c.unit, .int .i64 c.accel, .int .i64 c.speed, .int .i64 c.turn, .int .i64 c.hoist, .int .i64 c.queue, .int .i64 c.resend, .int .i64 c.budget, .bool c.back] 26 (0, 0)) := by rw [hw3]; exact (alloc_old _ _ _ (by simp; omega)).trans ((alloc_old _ _ _ (by simp)).trans (heap_alloc_new w _))
  have hf3 : w3.heap[w.heap.size + 1]? = some (.cells #[.int .i64 f.1, .int .i64 f.2] 39 (0, 0)) := by rw [hw3]; exact (alloc_old _ _ _ (by simp)).trans (heap_new2 _ _ _)
  have hz3 : w3.heap[w.heap.size + 2]? = some (.cells #[.int .i64 0, .int .i64 0] 39 (0, 0)) := by
    rw [hw3, show w.heap.size + 2 = ((w.alloc (.cells #[.int .i64 c.W, .int .i64 c.H, .int .i64 c.height, v1, v2, v3, v4, .int .i64 c.unit, .int .i64 c.accel, .int .i64 c.speed, .int .i64 c.turn, .int .i64 c.hoist, .int .i64 c.queue, .int .i64 c.resend, .int .i64 c.budget, .bool c.back] 26)).alloc (.cells #[.int .i64 f.1, .int .i64 f.2] 39)).heap.size by simp]
    exact heap_alloc_new _ _
  have lF3 : ∀ b, F b → b < w3.heap.size := fun b hb => Nat.lt_of_lt_of_le (hF b hb) b3.size
  have cN := newYard_some (hA.go hF b3) lF3 l1 l2 l3 l4 hN Fs stks sa sn sc (hS.go heldStackC hFs b3) (fun b hb => Nat.lt_of_lt_of_le (hFs b hb) b3.size) hsn
  have HB3 : Hid (Below w.heap.size w w3) := b3
  have HT : Hid (∀ u, Below w.heap.size w u → ListAt 2 cellEl Ft tl (.slice ta tn tc) u) := fun u b => hT.go heldCell hFt b
  have hh : 0 ≤ c.height ∧ c.height ≤ 1000 := by have := limited_sides (new_some hN).1.1; omega
  clear hA hF hT hS
  go_enter Try.func42, Try.ntmps42
  go_upto_region 1 with fail
  rw [← hw3]
  clear hw3
  go_upto_region 4 with (first
    | (refine wpList_load_row rfl 26 (.tmp 4) rfl w.heap.size rfl 26 _ (0, 0) _ hc3 Try.underlying26 rfl info_conf ?_)
    | (go_at_call 75; refine cN.mono ?_; rintro e w4 ⟨yb, pb, g, u, vp, rfl, hY, _, b4⟩))
  have b04 := bcat b3 b4 (Nat.le_refl _)
  have hf4 := (b4.block _ (lt_of_heap hf3)).trans hf3
  have hz4 := (b4.block _ (lt_of_heap hz3)).trans hz3
  have cP := places_any yb pb g u c.W c.H c.height G.uses vp Fs stks tl ta tn tc Ft f w4 hY (HT.out _ b04) (fun b hb => Nat.lt_of_lt_of_le (hFt b hb) b04.size) htn hh.1 hh.2 hp
  go_upto_region 5 with (first
    | (refine wpList_load_row rfl 39 (.tmp 7) rfl (w.heap.size + 1) rfl 39 #[.int .i64 f.1, .int .i64 f.2] (0, 0) _ hf4 Try.underlying39 rfl infoCell2 ?_)
    | (go_at_call 79; refine cP.mono ?_; rintro e w5 ⟨v, rfl, Ss, hSo, own, b5⟩))
  have b05 := bcat b04 b5 (Nat.le_refl _)
  have hz5 := (b5.block _ (lt_of_heap hz4)).trans hz4
  obtain ⟨P, hP⟩ : ∃ P, spots (roomOf stks c.height) Ss = P := ⟨_, rfl⟩
  have HPl : Hid (Places stks c.height (stkUpTo c.W G.uses G.uses.length) tl f P) := ⟨Ss, hSo, hP.symm⟩
  rw [hP] at own
  clear hP hSo cP cN
  cases P with
  | nil =>
    obtain ⟨va, vc, hv, _⟩ := own_form own
    subst hv
    go_wp2_with (refine wpList_store_row rfl 39 (.tmp 8) (.tmp 30) rfl (w.heap.size + 2) #[.int .i64 0, .int .i64 0] rfl rfl 39 #[.int .i64 0, .int .i64 0] hz5 infoCell2 rfl (by simp [Value.oneCell']) ?_)
    exact bodyPost_ret (results_cell_tmp Try.results42 _ _ (w.heap.size + 2) _ rfl (load_cell2 _ _ _ rfl (setRow_heap _ _ _ _ _ _ hz5))) rfl ⟨_, rfl, ⟨[], rfl, HPl.out⟩, below_row b05 (by omega) _⟩
  | cons q P =>
    obtain ⟨pp, cap2, hv, hrd⟩ := own_item own (k := 0) (by simp)
    subst hv
    have hrd2 : ∀ j z, #[Value.int .i64 q.1, .int .i64 q.2][j]? = some z → w5.cell? ((pp.add 0).add j) = some z := hrd
    have hl : ((q :: P).length : Int) ≠ 0 := by simp only [List.length_cons]; omega
    have hl2 : (0 : Int) < ((q :: P).length : Int) := by simp only [List.length_cons]; omega
    generalize (q :: P).length = n at *

    go_wp2_with (first
      | (refine wpList_load_at rfl 39 (.tmp 32) rfl (pp.add 0) rfl #[.int .i64 q.1, .int .i64 q.2] hrd2 (aggCell _) infoCell2 ?_)
      | (refine wpList_store_row rfl 39 (.tmp 8) (.tmp 33) rfl (w.heap.size + 2) #[.int .i64 q.1, .int .i64 q.2] rfl rfl 39 #[.int .i64 0, .int .i64 0] hz5 infoCell2 rfl (by simp [Value.oneCell']) ?_))
    exact bodyPost_ret (results_cell_tmp Try.results42 _ _ (w.heap.size + 2) _ rfl (load_cell2 _ _ _ rfl (setRow_heap _ _ _ _ _ _ hz5))) rfl ⟨_, rfl, ⟨q :: P, rfl, HPl.out⟩, below_row b05 (by omega) _⟩
end Go.Proofs.Ytnilbgmmcmjciaa.Dig
namespace Go.Proofs.Ytnilbgmmcmjciaa.Dig
set_option linter.unusedVariables false
open Go Go.Proofs.Ytnilbgmmcmjciaa.Grid Go.Proofs.Ytnilbgmmcmjciaa.Srt

theorem stk_nodup (W : Int) (us : List Int) (k : Nat) : (stkUpTo W us k).Nodup := by
  unfold stkUpTo List.Nodup
  rw [List.pairwise_map]
  refine List.Pairwise.imp ?_ (List.Pairwise.filter _ (List.pairwise_lt_range (n := k)))
  intro a b h e
  have h1 := num_cellAt (w := W) a
  have h2 := num_cellAt (w := W) b
  rw [e] at h1
  omega
/- It is a cell where a bin may be put. -/
def MayP (stks : List Stk) (height : Int) (L tl : List Cell) (f x : Cell) : Prop := x ∈ L ∧ x ≠ f ∧ x ∉ tl ∧ ((pileOf stks x).length : Int) < height
/- How often a cell is among cells. -/
def cntC (x : Cell) (l : List Cell) : Nat := @List.count Cell instBEqOfDecidableEq x l
theorem cntC_nil (x : Cell) : cntC x [] = 0 := rfl
theorem room_pos {stks : List Stk} {height : Int} {x : Cell} : 0 < roomOf stks height x ↔ ((pileOf stks x).length : Int) < height := by unfold roomOf; omega
theorem places_best {stks : List Stk} {height : Int} {L tl : List Cell} {f : Cell} {P : List Cell} (hn : L.Nodup) (h : Places stks height L tl f P) (k : Nat) :
    (∀ hk : k < P.length, Best (before (fun x => awayP f x) L) (fun x => MayP stks height L tl f x ∧ cntC x (P.take k) < roomOf stks height x) L (P[k]'hk)) ∧ (P.length ≤ k → ∀ x, MayP stks height L tl f x → ¬ cntC x (P.take k) < roomOf stks height x) := by
  obtain ⟨Ss, hs, rfl⟩ := h
  obtain ⟨h1, h2, h3⟩ := sorted_before hn (p := fun x => !decide (x = f) && !decide (x ∈ tl)) hs
  have hm : ∀ x, x ∈ Ss ↔ x ∈ L ∧ x ≠ f ∧ x ∉ tl := fun x => by rw [h3, List.mem_filter]; simp
  obtain ⟨q1, q2⟩ := next_best (room := roomOf stks height) Ss h1 h2 k
  refine ⟨fun hk => ?_, fun hk x hx => q2 hk x ((hm x).2 ⟨hx.1, hx.2.1, hx.2.2.1⟩)⟩
  obtain ⟨b1, b2, b3⟩ := q1 hk
  have hb := (hm _).1 b1
  have hr : 0 < roomOf stks height ((spots (roomOf stks height) Ss)[k]'hk) := by have : _ < _ := b2; omega
  exact ⟨hb.1, ⟨⟨hb.1, hb.2.1, hb.2.2, room_pos.1 hr⟩, b2⟩, fun x hx hmay => b3 x ((hm x).2 ⟨hmay.1.1, hmay.1.2.1, hmay.1.2.2.1⟩) hmay.2⟩
theorem places_nil {stks : List Stk} {height : Int} {L tl : List Cell} {f : Cell} (hn : L.Nodup) (h : Places stks height L tl f []) (x : Cell) : ¬ MayP stks height L tl f x := fun hx => by
  have := (places_best hn h 0).2 (Nat.zero_le _) x hx
  exact this (by rw [List.take_nil, cntC_nil]; exact room_pos.2 hx.2.2.2)
theorem places_cons {stks : List Stk} {height : Int} {L tl : List Cell} {f p : Cell} {P : List Cell} (hn : L.Nodup) (h : Places stks height L tl f (p :: P)) : MayP stks height L tl f p ∧ ∀ x, MayP stks height L tl f x → awayP f p ≤ awayP f x := by
  obtain ⟨_, ⟨b2, _⟩, b3⟩ := (places_best hn h 0).1 (by simp)
  refine ⟨b2, fun x hx => ?_⟩
  rcases b3 x hx.1 ⟨hx, by rw [List.take_zero, cntC_nil]; exact room_pos.2 hx.2.2.2⟩ with e | e
  · rw [e]; exact Int.le_refl _
  · unfold before at e
    simp only [List.getElem_cons_zero] at e
    omega
theorem may_less {stks : List Stk} {height : Int} {L tl ml : List Cell} {f x : Cell} (h : MayP stks height L (tl ++ ml) f x) : MayP stks height L tl f x := ⟨h.1, h.2.1, fun e => h.2.2.1 (by simp [e]), h.2.2.2⟩
end Go.Proofs.Ytnilbgmmcmjciaa.Dig
