/-
  The law's CopyEvent and SameEvent.
-/
import Derived.Test.YthdgpadakmdlkaaCodecSameMoves
namespace Go.Proofs.Ythdgpadakmdlkaa.Codec
set_option linter.unusedVariables false
set_option linter.unusedSimpArgs false
open Go Go.RowKit

theorem rowOf_len {α : Type} (S : Nat) : ∀ (ys : List (α × Array Value)), (∀ y ∈ ys, y.2.size = S) → (rowOf ys).length = ys.length * S
  | [], _ => by simp [rowOf]
  | y :: ys, hs => by
    have e : rowOf (y :: ys) = y.2.toList ++ rowOf ys := rfl
    rw [e, List.length_append, Array.length_toList, hs y (by simp), rowOf_len S ys (fun y hy => hs y (by simp [hy])), List.length_cons, Nat.succ_mul]
    omega
theorem rowOf_news {α : Type} (S : Nat) (w : World) (p : Addr) : ∀ (ys : List (α × Array Value)) (off : Nat), (∀ y ∈ ys, y.2.size = S) → (∀ i (h : i < ys.length) j u, ((ys[i]'h).2)[j]? = some u → w.cell? (p.add (off + (i * S + j))) = some u) → ∀ j u, (rowOf ys)[j]? = some u → w.cell? (p.add (off + j)) = some u
  | [], _, _, _, j, u, h => by simp [rowOf] at h
  | y :: ys, off, hs, hc, j, u, h => by
    have e : rowOf (y :: ys) = y.2.toList ++ rowOf ys := rfl
    have hy := hs y (by simp)
    rw [e] at h
    by_cases hj : j < S
    · rw [List.getElem?_append_left (by rw [Array.length_toList, hy]; exact hj)] at h
      have := hc 0 (by simp) j u (by simpa using h)
      rwa [Nat.zero_mul, Nat.zero_add] at this
    · rw [List.getElem?_append_right (by rw [Array.length_toList, hy]; omega), Array.length_toList, hy] at h
      have := rowOf_news S w p ys (off + S) (fun y hy => hs y (by simp [hy])) (fun i hi j u hu => by
        have := hc (i + 1) (by simpa using hi) j u (by simpa using hu)
        rwa [show off + ((i + 1) * S + j) = off + S + (i * S + j) by rw [Nat.succ_mul]; omega] at this) (j - S) u h
      rwa [show off + S + (j - S) = off + j by omega] at this
theorem listAt_own {α : Type} {S : Nat} {T : TypeId} {El : (Nat → Prop) → α → Array Value → World → Prop} (hE : Held El S) {w : World} {v : Value} {ys : List (α × Array Value)} {n base : Nat} {F : Nat → Prop} (hn : ys.length = n) (own : w.ownsRow base T S v n (rowOf ys)) (el : ∀ y ∈ ys, El F y.1 y.2 w) : ListAt S El (fun g => F g ∨ v.ownBlock = some g) (ys.map Prod.fst) v w := by
  rcases own.2 with ⟨hv, h0⟩ | ⟨g, cp, cur, hv, _, _, _, _, _, _⟩
  · subst hv
    refine ⟨none, 0, ys, rfl, by rw [hn, h0], fun y hy => hE.mono (el y hy) fun b hb => Or.inl hb, fun j hj => by omega, fun _ => rfl⟩
  · refine ⟨some ⟨g, 0, none⟩, cp, ys, rfl, by rw [hv, hn], fun y hy => hE.mono (el y hy) fun b hb => Or.inl hb, fun j hj => ⟨_, rfl, Or.inr (by rw [hv]; rfl), fun j' x hx => ?_⟩, fun e => by cases e⟩
    exact own.cells (g := g) (by rw [hv]; rfl) _ _ (rowOf_at S ys (fun y hy => hE.size (el y hy)) j hj j' x hx)
theorem iszEvent3 : (Try.prog.info? 28).map (·.size) = some 7 := by kernel_rfl
set_option maxRecDepth 100000 in
set_option maxHeartbeats 4000000 in
theorem copyEvent_any (w : World) (x : TEvent) (cs : Array Value) (F : Nat → Prop) (hx : eventEl F x cs w) (hF : ∀ g, F g → g < w.heap.size) (hn : x.2.2.2.2.length ≤ 1000000000) :
    Calls Try.prog 7 #[.agg cs] w fun e w' => Below w.heap.size w w' ∧ ∃ cs' G, e = .returned (.agg cs') ∧ eventEl G x cs' w' ∧ New G w.heap.size w' := by
  obtain ⟨k, a0, b0, ⟨⟨px, py⟩, d⟩, xs⟩ := x
  obtain ⟨v, rfl, hl⟩ := hx
  dsimp only at hl hn ⊢
  obtain ⟨i0, hi0, hz0, hz1, hz2⟩ := info_parts infMove
  obtain ⟨a, cap, ys, rfl, rfl, hel, hce, hnil⟩ := hl
  rw [List.length_map] at hn
  have hsz : ∀ y ∈ ys, y.2.size = 11 := fun y hy => heldMoveEl.size (hel y hy)
  have hlen := rowOf_len 11 ys hsz
  obtain ⟨wA, hwA⟩ : ∃ wA, wA = (w.alloc (.cells #[.int .i64 k, .int .i64 a0, .int .i64 b0, .int .i64 px, .int .i64 py, .bool d, .slice a ys.length cap] 28)).alloc (.cells #[.int .i64 0, .int .i64 0, .int .i64 0, .int .i64 0, .int .i64 0, .bool false, .slice none 0 0] 28) := ⟨_, rfl⟩
  have bA : Below w.heap.size w wA := by rw [hwA]; exact ((Below.refl _ _).alloc (Nat.le_refl _) _).alloc (by simp) _
  have sA : wA.heap.size = w.heap.size + 1 + 1 := by rw [hwA]; simp
  have hB : wA.heap[w.heap.size]? = some (.cells #[.int .i64 k, .int .i64 a0, .int .i64 b0, .int .i64 px, .int .i64 py, .bool d, .slice a ys.length cap] 28 (0, 0)) := by
    rw [hwA, alloc_old _ _ _ (by simp)]
    exact heap_alloc_new _ _
  have hC : wA.heap[w.heap.size + 1]? = some (.cells #[.int .i64 0, .int .i64 0, .int .i64 0, .int .i64 0, .int .i64 0, .bool false, .slice none 0 0] 28 (0, 0)) := by
    rw [hwA]
    have := heap_alloc_new (w.alloc (.cells #[.int .i64 k, .int .i64 a0, .int .i64 b0, .int .i64 px, .int .i64 py, .bool d, .slice a ys.length cap] 28)) (.cells #[.int .i64 0, .int .i64 0, .int .i64 0, .int .i64 0, .int .i64 0, .bool false, .slice none 0 0] 28)
    simp only [World.size_alloc] at this
    exact this
  have FIN : ∀ (v' : Value) (w1 : World), w1.ownsRow 0 42 11 v' ys.length (rowOf ys) → wA.grownBy w1 none → (v'.ownBlock = none ∨ v'.ownBlock = some wA.heap.size) →
      w1.heap[w.heap.size]? = some (.cells #[.int .i64 k, .int .i64 a0, .int .i64 b0, .int .i64 px, .int .i64 py, .bool d, .slice a ys.length cap] 28 (0, 0)) ∧ w1.heap[w.heap.size + 1]? = some (.cells #[.int .i64 0, .int .i64 0, .int .i64 0, .int .i64 0, .int .i64 0, .bool false, .slice none 0 0] 28 (0, 0)) ∧
      Below w.heap.size w ((w1.setCell ⟨w.heap.size, 6, none⟩ v').setRow (w.heap.size + 1) #[.int .i64 k, .int .i64 a0, .int .i64 b0, .int .i64 px, .int .i64 py, .bool d, v']) ∧
      ∃ G, eventEl G (k, a0, b0, ((px, py), d), ys.map Prod.fst) #[.int .i64 k, .int .i64 a0, .int .i64 b0, .int .i64 px, .int .i64 py, .bool d, v'] ((w1.setCell ⟨w.heap.size, 6, none⟩ v').setRow (w.heap.size + 1) #[.int .i64 k, .int .i64 a0, .int .i64 b0, .int .i64 px, .int .i64 py, .bool d, v']) ∧ New G w.heap.size ((w1.setCell ⟨w.heap.size, 6, none⟩ v').setRow (w.heap.size + 1) #[.int .i64 k, .int .i64 a0, .int .i64 b0, .int .i64 px, .int .i64 py, .bool d, v']) := by
    intro v' w1 own g at_
    have s1 := g.size
    refine ⟨(g.block _ (by omega) (by simp)).trans hB, (g.block _ (by omega) (by simp)).trans hC, ?_, fun g => v'.ownBlock = some g, ⟨v', rfl, ?_⟩, fun b hb => ?_⟩
    · have b1 : Below w.heap.size w w1 := bA.grown g bA.size (fun _ h => by cases h)
      exact below_row (b1.grown (grown_setCell w1 ⟨w.heap.size, 6, none⟩ v') b1.size (fun _ h => by cases h; exact Nat.le_refl _)) (by omega) _
    · have l1 := listAt_own (El := moveEl) (F := fun _ => False) heldMoveEl rfl own fun y hy => hel y hy
      refine (l1.mono heldMoveEl (F' := fun g => v'.ownBlock = some g) fun b hb => hb.elim (fun h => h.elim) id).stable heldMoveEl fun b hb => ?_
      rcases at_ with e | e
      · rw [e] at hb; cases hb
      · rw [e] at hb
        have := Option.some.inj hb
        rw [setRow_other _ _ _ _ (by omega), heap_setCell_other _ _ _ _ (by simp only; omega)]
    · have := own.lt b hb
      rcases at_ with e | e
      · rw [e] at hb; cases hb
      · rw [e] at hb
        have := Option.some.inj hb
        rw [setRow_size]
        simp
        omega
  cases a with
  | none =>
    obtain rfl := hnil rfl
    have hys : ys.length = 0 := by
      rcases Nat.eq_zero_or_pos ys.length with e | e
      · exact e
      · obtain ⟨p, hp, _⟩ := hce 0 e
        cases hp
    obtain rfl := List.eq_nil_of_length_eq_zero hys
    clear hys hce hel hsz hlen hn
    have hrow : rowOf ([] : List (TMove × Array Value)) = [] := rfl
    rw [hrow] at FIN
    simp only [List.length_nil] at hwA hB FIN
    rw [List.length_nil]
    obtain ⟨f1, f2, f3, f4⟩ := FIN (.slice none 0 0) wA (World.ownsRow_nil _ _ _ _) (World.grownBy.refl _ _) (Or.inl rfl)
    have hcl1 : wA.cell? ⟨w.heap.size, 6, none⟩ = some (.slice none 0 0) := (cell_of f1 6).trans rfl
    have hcl2 := frozen_of f1 6
    have hrow2 := heap_setCell_same wA w.heap.size 6 _ _ (.slice none 0 0) f1
    have hres2 : (wA.setCell ⟨w.heap.size, 6, none⟩ (.slice none 0 0)).heap[w.heap.size + 1]? = _ := (heap_setCell_other wA ⟨w.heap.size, 6, none⟩ (w.heap.size + 1) (.slice none 0 0) (by simp)).trans f2
    go_enter Try.func7, Try.ntmps7
    go_upto_region 1 with fail
    rw [← hwA]
    clear hwA FIN
    go_wp2_with (first
      | (at_builtin; refine wpList_append_own_none rfl _ _ 26 rfl 0 42 i0 11 Try.underlying26 hi0 (.slice none 0 0) 0 [] rfl (World.ownsRow_nil _ _ _ _) rfl ?_)
      | (refine wpList_load_row rfl 28 (.tmp 1) rfl w.heap.size rfl 28 #[.int .i64 k, .int .i64 a0, .int .i64 b0, .int .i64 px, .int .i64 py, .bool d, .slice none 0 0] (0, 0) _ hrow2 Try.underlying28 rfl iszEvent3 ?_)
      | (refine wpList_store_row rfl 28 (.tmp 2) (.tmp 7) rfl (w.heap.size + 1) #[.int .i64 k, .int .i64 a0, .int .i64 b0, .int .i64 px, .int .i64 py, .bool d, .slice none 0 0] rfl rfl 28 #[.int .i64 0, .int .i64 0, .int .i64 0, .int .i64 0, .int .i64 0, .bool false, .slice none 0 0] hres2 iszEvent3 rfl (by simp [Value.oneCell']) ?_))
    refine bodyPost_ret (results_cell_row rfl _ _ (w.heap.size + 1) 28 #[.int .i64 k, .int .i64 a0, .int .i64 b0, .int .i64 px, .int .i64 py, .bool d, .slice none 0 0] (0, 0) _ rfl (setRow_heap _ _ _ _ _ _ hres2) Try.underlying28 rfl iszEvent3) rfl ?_
    exact ⟨f3, _, rfl, f4⟩
  | some p =>
    have hnews : ∀ j u, (rowOf ys)[j]? = some u → wA.cell? (p.add j) = some u := by
      intro j u hj
      have := rowOf_news 11 wA p ys 0 hsz (fun i hi j u hu => ?_) j u hj
      · rwa [Nat.zero_add] at this
      · obtain ⟨q, hq, hf, hc⟩ := hce i hi
        cases hq
        rw [Nat.zero_add, bA.cell (by rw [block_add]; exact hF _ hf)]
        exact hc j u hu
    have hone : ∀ u ∈ rowOf ys, u.oneCell' = true := by
      intro u hu
      obtain ⟨y, hy, hm⟩ := List.mem_flatMap.1 hu
      exact one_list (heldMoveEl.one (hel y hy)) u hm
    clear hce hel hsz hnil
    generalize hN : ys.length = N at *
    generalize hRO : rowOf ys = RO at *
    have hcl1 : wA.cell? ⟨w.heap.size, 6, none⟩ = some (.slice (some p) N cap) := (cell_of hB 6).trans rfl
    clear hRO
    go_enter Try.func7, Try.ntmps7
    go_upto_region 1 with fail
    rw [← hwA]
    clear hwA
    go_wp2_with (first
      | (at_builtin; refine wpList_append_own_at _ rfl _ _ 26 rfl 0 42 i0 (.agg #[.int .i64 0, .int .i64 0, .int .i64 0, .int .i64 0, .int .i64 0, .bool false, .int .i64 0, .int .i64 0, .bool false, .int .i64 0, .int .i64 0]) 11 88 Try.underlying26 hi0 hz0 hz1 hz2 rfl (by decide) (.slice none 0 0) 0 [] rfl (World.ownsRow_nil _ _ _ _) p N cap RO rfl hlen hnews hone (by unfold maxLen; omega) (by omega) (Nat.zero_le _) ?_; intro v3 w3 own3 g3 n3 at3; rw [Nat.zero_add, List.nil_append] at own3; obtain ⟨f1, f2, f3, f4⟩ := FIN v3 w3 own3 g3 at3; have hcl3 := (cell_of f1 6).trans rfl; have hcl4 := frozen_of f1 6; have hone3 : v3.oneCell' = true := (by rcases own3.2 with ⟨hv, _⟩ | ⟨_, _, _, hv, _⟩ <;> (rw [hv]; rfl)); have hrow2 := heap_setCell_same w3 w.heap.size 6 _ _ v3 f1; have hres2 := (heap_setCell_other w3 ⟨w.heap.size, 6, none⟩ (w.heap.size + 1) v3 (by simp)).trans f2; obtain ⟨va, vc, rfl⟩ : ∃ va vc, v3 = .slice va N vc := (by rcases own3.2 with ⟨hv, h0⟩ | ⟨_, _, _, hv, _⟩; (exact ⟨none, 0, by rw [hv, h0]⟩); (exact ⟨_, _, hv⟩)))
      | (have X' := hone3; refine wpList_load_row rfl 28 (.tmp 1) rfl w.heap.size rfl 28 #[.int .i64 k, .int .i64 a0, .int .i64 b0, .int .i64 px, .int .i64 py, .bool d, .slice va N vc] (0, 0) _ hrow2 Try.underlying28 rfl iszEvent3 ?_)
      | (have X' := hone3; refine wpList_store_row rfl 28 (.tmp 2) (.tmp 7) rfl (w.heap.size + 1) #[.int .i64 k, .int .i64 a0, .int .i64 b0, .int .i64 px, .int .i64 py, .bool d, .slice va N vc] rfl rfl 28 #[.int .i64 0, .int .i64 0, .int .i64 0, .int .i64 0, .int .i64 0, .bool false, .slice none 0 0] hres2 iszEvent3 rfl (by simp [Value.oneCell']) ?_))
    refine bodyPost_ret (results_cell_row rfl _ _ (w.heap.size + 1) 28 #[.int .i64 k, .int .i64 a0, .int .i64 b0, .int .i64 px, .int .i64 py, .bool d, .slice va N vc] (0, 0) _ rfl (setRow_heap _ _ _ _ _ _ hres2) Try.underlying28 rfl iszEvent3) rfl ?_
    exact ⟨f3, _, rfl, f4⟩
end Go.Proofs.Ythdgpadakmdlkaa.Codec
