/-
  The chapter's own Place; the code's and the chapter's place are one.
-/
import Derived.Test.YtnilbgmmcmjciaaDigRefPlace
namespace Go.Proofs.Ytnilbgmmcmjciaa.Dig
set_option linter.unusedVariables false
set_option linter.unusedSimpArgs false
open Go Go.RowKit Go.Shelf Go.Proofs Go.Proofs.Ytnilbgmmcmjciaa.Grid Go.Proofs.Ytnilbgmmcmjciaa.Srt
attribute [local go_sem] Oper.semAt_some

theorem mayG_iff {stks : List Stk} {height : Int} {L tl gl : List Cell} {f x : Cell} (hx : x ∈ L) : MayG stks height tl gl f x ↔ (MayP stks height L tl f x ∧ cntC x gl < roomOf stks height x) := by
  unfold MayG MayP roomOf
  constructor
  · rintro ⟨h1, h2, h3⟩
    exact ⟨⟨hx, h1, h2, by omega⟩, by omega⟩
  · rintro ⟨⟨_, h1, h2, h3⟩, h4⟩
    exact ⟨h1, h2, by omega⟩
/- What comes next in the code's list is what the chapter finds beside those ahead. -/
theorem places_next {stks : List Stk} {height : Int} {L tl : List Cell} {f : Cell} {P : List Cell} (hn : L.Nodup) (h : Places stks height L tl f P) (k : Nat) {o : Option Cell} (ho : PlaceR stks height L tl (P.take k) f o) : o = P[k]? := by
  obtain ⟨h1, h2⟩ := places_best hn h k
  by_cases hk : k < P.length
  · rw [List.getElem?_eq_getElem hk]
    obtain ⟨b1, b2, b3⟩ := h1 hk
    cases o with
    | none => exact absurd ((mayG_iff b1).2 b2) (ho _ b1)
    | some p =>
      obtain ⟨i, hi, rfl⟩ := ho
      have hB : Best (before (fun x => awayP f x) L) (fun x => MayG stks height tl (P.take k) f x) L (P[k]'hk) := ⟨b1, (mayG_iff b1).2 b2, fun x hx hm => b3 x hx ((mayG_iff hx).1 hm)⟩
      rw [best_first hn (fun x h => h) (fun x h _ => h) hB hi]
  · rw [List.getElem?_eq_none (by omega)]
    cases o with
    | none => rfl
    | some p =>
      obtain ⟨i, hi, rfl⟩ := ho
      have hm := (mayG_iff (List.getElem_mem hi.lt)).1 hi.ok
      exact absurd hm.2 (h2 (by omega) _ hm.1)
theorem places_same {stks : List Stk} {height : Int} {L tl : List Cell} {f : Cell} {P : List Cell} (hn : L.Nodup) (h : Places stks height L tl f P) {o : Option Cell} (ho : PlaceR stks height L tl [] f o) : cellOf o = placeP P ∧ (if o.isSome then (0 : Int) else 14) = placeE P := by
  have := places_next hn h 0 (o := o) (by rw [List.take_zero]; exact ho)
  subst this
  cases P with
  | nil => exact ⟨rfl, rfl⟩
  | cons p P => exact ⟨rfl, rfl⟩
set_option maxRecDepth 100000 in
set_option maxHeartbeats 2000000 in
theorem refTop_any {F : Nat → Prop} {c : Conf} {v1 v2 v3 v4 : Value} {w : World} (hA : ConfAt F c v1 v2 v3 v4 w) (hF : ∀ b, F b → b < w.heap.size) (l1 : c.blocked.length ≤ 8796093022208) (l2 : c.ports.length ≤ 8796093022208) (l3 : c.robots.length ≤ 5864062014805) (l4 : c.stacks.length ≤ 3518437208880) (l5 : ∀ s ∈ c.stacks, s.2.length ≤ 17592186044416) {G : GS} (hN : newP c = some G)
    (Fs : Nat → Prop) (stks : List Stk) (sa : Option Addr) (sn sc : Nat) (hS : ListAt 3 stackEl Fs stks (.slice sa sn sc) w) (hFs : ∀ b, Fs b → b < w.heap.size) (hsn : sn ≤ 1000000) (hp : ∀ x, (pileOf stks x).length ≤ 17592186044416)
    (Ft : Nat → Prop) (tl : List Cell) (ta : Option Addr) (tn tc : Nat) (hT : ListAt 2 cellEl Ft tl (.slice ta tn tc) w) (hFt : ∀ b, Ft b → b < w.heap.size) (htn : tn ≤ 1000000) (f : Cell) :
    Calls Try.prog 43 #[.agg #[.int .i64 c.W, .int .i64 c.H, .int .i64 c.height, v1, v2, v3, v4, .int .i64 c.unit, .int .i64 c.accel, .int .i64 c.speed, .int .i64 c.turn, .int .i64 c.hoist, .int .i64 c.queue, .int .i64 c.resend, .int .i64 c.budget, .bool c.back], .slice sa sn sc, .slice ta tn tc, .agg #[.int .i64 f.1, .int .i64 f.2]] w fun e w' => ∃ r, e = .returned r ∧ (∃ o : Option Cell, r = .tuple #[.agg #[.int .i64 (cellOf o).1, .int .i64 (cellOf o).2], .int .i64 (if o.isSome then (0 : Int) else 14)] ∧ PlaceR stks c.height (stkUpTo c.W G.uses G.uses.length) tl [] f o) ∧ Below w.heap.size w w' := by
  obtain ⟨w3, hw3⟩ : ∃ w3, w3 = ((w.alloc (.cells #[.int .i64 c.W, .int .i64 c.H, .int .i64 c.height, v1, v2, v3, v4, .int .i64 c.unit, .int .i64 c.accel, .int .i64 c.speed, .int .i64 c.turn, .int .i64 c.hoist, .int .i64 c.queue, .int .i64 c.resend, .int .i64 c.budget, .bool c.back] 26)).alloc (.cells #[.int .i64 f.1, .int .i64 f.2] 39)).alloc (.cells #[.int .i64 0, .int .i64 0] 39) := ⟨_, rfl⟩
  have b3 : Below w.heap.size w w3 := by rw [hw3]; exact ((((Below.refl _ _).alloc (Nat.le_refl _) _).alloc (by simp) _).alloc (by simp; omega) _)
  have s3 : w3.heap.size = w.heap.size + 3 := by rw [hw3]; simp
  have hc3 : w3.heap[w.heap.size]? = some (.cells #[.int .i64 c.W, .int .i64 c.H, .int .i64 c.height, v1, v2, v3, v4, .int .i64 c.unit, .int .i64 c.accel, .int .i64 c.speed, .int .i64 c.turn, .int .i64 c.hoist, .int .i64 c.queue, .int .i64 c.resend, .int .i64 c.budget, .bool c.back] 26 (0, 0)) := by rw [hw3]; exact (alloc_old _ _ _ (by simp; omega)).trans ((alloc_old _ _ _ (by simp)).trans (heap_alloc_new w _))
  have hf3 : w3.heap[w.heap.size + 1]? = some (.cells #[.int .i64 f.1, .int .i64 f.2] 39 (0, 0)) := by rw [hw3]; exact (alloc_old _ _ _ (by simp)).trans (heap_new2 _ _ _)
  have hz3 : w3.heap[w.heap.size + 2]? = some (.cells #[.int .i64 0, .int .i64 0] 39 (0, 0)) := by
    rw [hw3, show w.heap.size + 2 = ((w.alloc (.cells #[.int .i64 c.W, .int .i64 c.H, .int .i64 c.height, v1, v2, v3, v4, .int .i64 c.unit, .int .i64 c.accel, .int .i64 c.speed, .int .i64 c.turn, .int .i64 c.hoist, .int .i64 c.queue, .int .i64 c.resend, .int .i64 c.budget, .bool c.back] 26)).alloc (.cells #[.int .i64 f.1, .int .i64 f.2] 39)).heap.size by simp]
    exact heap_alloc_new _ _
  have lt3 := fun {q : Nat} (h : q < w.heap.size) => Nat.lt_of_lt_of_le h b3.size
  have cP := refPlace_any (hA.go hF b3) (fun b hb => lt3 (hF b hb)) l1 l2 l3 l4 l5 hN Fs stks sa sn sc (hS.go heldStack hFs b3) (fun b hb => lt3 (hFs b hb)) hsn hp Ft tl ta tn tc (hT.go heldCell hFt b3) (fun b hb => lt3 (hFt b hb)) htn (fun _ => False) [] none 0 0 (ListAt.nil _ _ _ _) (fun _ h => h.elim) (by omega) f
  clear hA hF hS hT
  go_enter Try.func43, Try.ntmps43
  go_upto_region 1 with fail
  rw [← hw3]
  clear hw3
  go_upto_region 2 with (first
    | (refine wpList_load_row rfl 26 (.tmp 4) rfl w.heap.size rfl 26 _ (0, 0) _ hc3 Try.underlying26 rfl info_conf ?_)
    | (refine wpList_load_row rfl 39 (.tmp 7) rfl (w.heap.size + 1) rfl 39 #[.int .i64 f.1, .int .i64 f.2] (0, 0) _ hf3 Try.underlying39 rfl infoCell2 ?_)
    | (go_at_call 87; refine cP.mono ?_; rintro e w4 ⟨r, rfl, ⟨o, rfl, hR⟩, b4⟩))
  obtain ⟨w5, hw5⟩ : ∃ w5, w5 = w4.alloc (.cells #[.int .i64 (cellOf o).1, .int .i64 (cellOf o).2] 39) := ⟨_, rfl⟩
  have b5 : Below w4.heap.size w4 w5 := by rw [hw5]; exact below_new (Below.refl _ _) _
  have ho5 : w5.heap[w4.heap.size]? = some (.cells #[.int .i64 (cellOf o).1, .int .i64 (cellOf o).2] 39 (0, 0)) := by rw [hw5]; exact heap_alloc_new w4 _
  have b35 := bcat b4 b5 (Nat.le_refl _)
  have B5 := bcat b3 b35 (Nat.le_refl _)
  have hz5 := (b35.block _ (lt_of_heap hz3)).trans hz3
  rw [← hw5]
  clear hw5 cP
  cases o with
  | none =>
    simp only [Option.isSome_none]
    go_wp2_with (refine wpList_store_row rfl 39 (.tmp 8) (.tmp 22) rfl (w.heap.size + 2) #[.int .i64 0, .int .i64 0] rfl rfl 39 #[.int .i64 0, .int .i64 0] hz5 infoCell2 rfl (by simp [Value.oneCell']) ?_)
    exact bodyPost_ret (results_cell_tmp Try.results43 _ _ (w.heap.size + 2) _ rfl (load_cell2 _ _ _ rfl (setRow_heap _ _ _ _ _ _ hz5))) rfl ⟨_, rfl, ⟨none, rfl, hR⟩, below_row B5 (by omega) _⟩
  | some q =>
    have e1 : cellOf (some q) = q := rfl
    rw [e1] at ho5
    simp only [Option.isSome_some, e1]
    go_wp2_with (first
      | (refine wpList_load_row rfl 39 (.tmp 10) rfl w4.heap.size rfl 39 #[.int .i64 q.1, .int .i64 q.2] (0, 0) _ ho5 Try.underlying39 rfl infoCell2 ?_)
      | (refine wpList_store_row rfl 39 (.tmp 8) (.tmp 23) rfl (w.heap.size + 2) #[.int .i64 q.1, .int .i64 q.2] rfl rfl 39 #[.int .i64 0, .int .i64 0] hz5 infoCell2 rfl (by simp [Value.oneCell']) ?_))
    exact bodyPost_ret (results_cell_tmp Try.results43 _ _ (w.heap.size + 2) _ rfl (load_cell2 _ _ _ rfl (setRow_heap _ _ _ _ _ _ hz5))) rfl ⟨_, rfl, ⟨some q, rfl, hR⟩, below_row B5 (by omega) _⟩
/- Place, whether the config may be or not. -/
theorem place_all {F : Nat → Prop} {c : Conf} {v1 v2 v3 v4 : Value} {w : World} (hA : ConfAt F c v1 v2 v3 v4 w) (hF : ∀ b, F b → b < w.heap.size) (l1 : c.blocked.length ≤ 8796093022208) (l2 : c.ports.length ≤ 8796093022208) (l3 : c.robots.length ≤ 5864062014805) (l4 : c.stacks.length ≤ 3518437208880) (Fs : Nat → Prop) (stks : List Stk) (sa : Option Addr) (sn sc : Nat) (hS : ListAt 3 stackElC Fs stks (.slice sa sn sc) w) (hFs : ∀ b, Fs b → b < w.heap.size) (hsn : sn ≤ 1000000) (hp : ∀ x, (pileOf stks x).length ≤ 17592186044416) (Ft : Nat → Prop) (tl : List Cell) (ta : Option Addr) (tn tc : Nat) (hT : ListAt 2 cellEl Ft tl (.slice ta tn tc) w) (hFt : ∀ b, Ft b → b < w.heap.size) (htn : tn ≤ 1000000) (f : Cell) :
    Calls Try.prog 42 #[.agg #[.int .i64 c.W, .int .i64 c.H, .int .i64 c.height, v1, v2, v3, v4, .int .i64 c.unit, .int .i64 c.accel, .int .i64 c.speed, .int .i64 c.turn, .int .i64 c.hoist, .int .i64 c.queue, .int .i64 c.resend, .int .i64 c.budget, .bool c.back], .slice sa sn sc, .slice ta tn tc, .agg #[.int .i64 f.1, .int .i64 f.2]] w fun e w' => ∃ r, e = .returned r ∧ (∃ (q : Cell) (ee : Int), r = .tuple #[.agg #[.int .i64 q.1, .int .i64 q.2], .int .i64 ee] ∧ (newP c = none → q = (0, 0) ∧ ee = 5) ∧ ∀ G, newP c = some G → ∃ P, q = placeP P ∧ ee = placeE P ∧ Places stks c.height (stkUpTo c.W G.uses G.uses.length) tl f P) ∧ Below w.heap.size w w' := by
  cases hN : newP c with
  | none =>
    refine (place_none hA hF l1 l2 l3 l4 hN _ _ f).mono ?_
    rintro e w' ⟨r, rfl, rfl, b⟩
    exact ⟨_, rfl, ⟨(0, 0), 5, rfl, fun _ => ⟨rfl, rfl⟩, fun G h => by cases h⟩, b⟩
  | some G =>
    refine (place_some hA hF l1 l2 l3 l4 hN Fs stks sa sn sc hS hFs hsn hp Ft tl ta tn tc hT hFt htn f).mono ?_
    rintro e w' ⟨r, rfl, ⟨P, rfl, hP⟩, b⟩
    exact ⟨_, rfl, ⟨placeP P, placeE P, rfl, (fun h => by cases h), fun G' h => by cases h; exact ⟨P, rfl, rfl, hP⟩⟩, b⟩
end Go.Proofs.Ytnilbgmmcmjciaa.Dig
