/-
  What goes through a radio's telegrams, against the law's function.
-/
import Derived.Test.YtdplacpdbknlgaaRadHear
namespace Go.Proofs.Ytdplacpdbknlgaa.Lk
set_option linter.unusedVariables false
set_option linter.unusedSimpArgs false
open Go Go.RowKit Go.Shelf Go.Proofs
attribute [local go_sem] Oper.semAt_some

/- While all are told: the law's three boxes, what was gathered. -/
structure Tq (w0 : World) (b1 mb lb kb : Nat) (mo : Int) (acc : List Tl) (m : Value) (u : World) : Prop where
  below : Below w0.heap.size w0 u
  bm : u.heap[mb]? = some (.cells #[.int .i64 mo] 3 (0, 0))
  bl : u.heap[lb]? = some (.cells #[m] 27 (0, 0))
  bk : u.heap[kb]? = some (.cells #[.bool true] 4 (0, 0))
  own : Own u b1 m acc
  lm : w0.heap.size ≤ mb ∧ mb < b1
  ll : w0.heap.size ≤ lb ∧ lb < b1
  lk : w0.heap.size ≤ kb ∧ kb < b1
  ne : lb ≠ kb ∧ mb ≠ lb ∧ mb ≠ kb
  lt : b1 ≤ u.heap.size
theorem Tq.go {w0 : World} {b1 mb lb kb : Nat} {mo : Int} {acc : List Tl} {m : Value} {u u' : World} (h : Tq w0 b1 mb lb kb mo acc m u) (hb : Below u.heap.size u u') : Tq w0 b1 mb lb kb mo acc m u' :=
  ⟨h.below.trans (hb.mono h.below.size), (hb.block _ (Array.getElem?_eq_some_iff.1 h.bm).1).trans h.bm, (hb.block _ (Array.getElem?_eq_some_iff.1 h.bl).1).trans h.bl, (hb.block _ (Array.getElem?_eq_some_iff.1 h.bk).1).trans h.bk, owns_go h.own hb, h.lm, h.ll, h.lk, h.ne, Nat.le_trans h.lt hb.size⟩
/- What the law's function turns. -/
structure Tf (lb kb : Nat) (m : Value) (u u' : World) : Prop where
  size : u.heap.size ≤ u'.heap.size
  block : ∀ k, k < u.heap.size → k ≠ lb → k ≠ kb → m.ownBlock ≠ some k → u'.heap[k]? = u.heap[k]?
theorem below_set1 {B : Nat} {w u : World} (h : Below B w u) {g : Nat} (hg : B ≤ g) (o : Nat) (v : Value) : Below B w (u.setCell ⟨g, o, none⟩ v) :=
  ⟨h.os, h.tape, h.output, by simpa [World.setCell] using h.size, fun k hk => (RowKit.Below.heap_setCell _ _ _ _ (by show k ≠ g; omega)).trans (h.block k hk)⟩
theorem heap_set_other (u : World) (g o : Nat) (v : Value) {k : Nat} (h : k ≠ g) : (u.setCell ⟨g, o, none⟩ v).heap[k]? = u.heap[k]? := RowKit.Below.heap_setCell _ _ _ _ h
set_option maxRecDepth 100000 in
set_option maxHeartbeats 2000000 in
theorem gath_any {w0 : World} {b1 mb lb kb : Nat} {mo : Int} {acc : List Tl} {m : Value} {w : World} (h : Tq w0 b1 mb lb kb mo acc m w) (t : Tl) (n : Nat) (hn : acc.length = n) (hl : n ≤ 2000) :
    Calls Try.prog 24 #[.int .i64 n, .agg (tlA t), .pointer (some ⟨kb, 0, none⟩), .pointer (some ⟨lb, 0, none⟩), .pointer (some ⟨mb, 0, none⟩)] w fun e w' => e = .returned (.bool (decide ((n : Int) + 1 < mo))) ∧ (∃ m', Tq w0 b1 mb lb kb mo (acc ++ [t]) m' w') ∧ Tf lb kb m w w' := by
  have l0 : b1 ≤ w.heap.size := h.lt
  obtain ⟨a, cap, rfl⟩ := own_slice h.own hn
  obtain ⟨w1, hw1⟩ : ∃ w1, w.alloc (.cells (tlA t) 42) = w1 := ⟨_, rfl⟩
  have b01 : Below w.heap.size w w1 := by rw [← hw1]; exact (Below.refl _ _).alloc (Nat.le_refl _) _
  have hx1 : w1.heap[w.heap.size]? = some (.cells (tlA t) 42 (0, 0)) := by rw [← hw1]; exact World.alloc_heap_new _ _
  have s1 : w1.heap.size = w.heap.size + 1 := by rw [← hw1]; simp
  have h1 := h.go b01
  have ck1 := cell0 h1.bk
  have fk1 := thaw (j := 0) h1.bk
  have cl1 := cell0 h1.bl
  obtain ⟨w2, hw2⟩ : ∃ w2, w1.setCell ⟨kb, 0, none⟩ (.bool true) = w2 := ⟨_, rfl⟩
  have o2 : ∀ k, k ≠ kb → w2.heap[k]? = w1.heap[k]? := fun k hk => by rw [← hw2]; exact heap_set_other _ _ _ _ hk
  have k2 : w2.heap[kb]? = some (.cells #[.bool true] 4 (0, 0)) := by rw [← hw2]; exact set0 h1.bk
  have s2 : w2.heap.size = w.heap.size + 1 := by rw [← hw2, ← s1]; simp [World.setCell]
  have b2 : Below w0.heap.size w0 w2 := by rw [← hw2]; exact below_set1 h1.below h.lk.1 _ _
  have own2 : Own w2 b1 (.slice a n cap) acc := owns_same h1.own fun k hk => o2 k (by have := (h1.own.lt k hk).1; have := h.lk.2; omega)
  have l2 : w2.heap[lb]? = some (.cells #[.slice a n cap] 27 (0, 0)) := (o2 lb h.ne.1).trans h1.bl
  have m2 : w2.heap[mb]? = some (.cells #[.int .i64 mo] 3 (0, 0)) := (o2 mb h.ne.2.2).trans h1.bm
  have x2 : w2.heap[w.heap.size]? = some (.cells (tlA t) 42 (0, 0)) := (o2 _ (by have := h.lk.2; omega)).trans hx1
  have cl2 := cell0 l2
  obtain ⟨w3, hw3⟩ : ∃ w3, w2.alloc (.cells (tlA t) 42) = w3 := ⟨_, rfl⟩
  have b23 : Below w2.heap.size w2 w3 := by rw [← hw3]; exact (Below.refl _ _).alloc (Nat.le_refl _) _
  have x3 : w3.heap[w2.heap.size]? = some (.cells (tlA t) 42 (0, 0)) := by rw [← hw3]; exact World.alloc_heap_new _ _
  have s3 : w3.heap.size = w2.heap.size + 1 := by rw [← hw3]; simp
  have own3 := owns_go own2 b23
  have HN : Hid (acc.length = n) := hn
  have HX2 : Hid (w2.heap[w.heap.size]? = some (.cells (tlA t) 42 (0, 0))) := x2
  have HX3 : Hid (w3.heap[w2.heap.size]? = some (.cells (tlA t) 42 (0, 0))) := x3
  have HO3 : Hid (Own w3 b1 (.slice a n cap) acc) := own3
  have HK : Hid (∀ {w4 : World} {v4 : Value}, Own w4 b1 v4 (acc ++ [t]) → w3.grownBy w4 (Value.slice a n cap).ownBlock → w4.heap[lb]? = some (.cells #[.slice a n cap] 27 (0, 0)) ∧ (w4.setCell ⟨lb, 0, none⟩ v4).heap[mb]? = some (.cells #[.int .i64 mo] 3 (0, 0)) ∧ (w4.setCell ⟨lb, 0, none⟩ v4).heap[lb]? = some (.cells #[v4] 27 (0, 0)) ∧ Tq w0 b1 mb lb kb mo (acc ++ [t]) v4 (w4.setCell ⟨lb, 0, none⟩ v4) ∧ Tf lb kb (.slice a n cap) w (w4.setCell ⟨lb, 0, none⟩ v4)) := by
    intro w4 v4 O4 g4
    have nb : ∀ k, k < w3.heap.size → (Value.slice a n cap).ownBlock ≠ some k → w4.heap[k]? = w3.heap[k]? := fun k hk hq => g4.block k hk fun e => hq e.symm
    have nb1 : ∀ k, k < b1 → w4.heap[k]? = w2.heap[k]? := fun k hk => (nb k (by omega) fun e => by have := (own3.lt k e).1; omega).trans (b23.block k (by omega))
    have L4 := (nb1 lb h.ll.2).trans l2
    have M5 := (heap_set_other w4 lb 0 v4 h.ne.2.1).trans ((nb1 mb h.lm.2).trans m2)
    have L5 := set0 (v' := v4) L4
    have K5 := (heap_set_other w4 lb 0 v4 (Ne.symm h.ne.1)).trans ((nb1 kb h.lk.2).trans k2)
    have s5 : (w4.setCell ⟨lb, 0, none⟩ v4).heap.size = w4.heap.size := by simp [World.setCell]
    have s4 := g4.size
    refine ⟨L4, M5, L5, ⟨below_set1 ((b2.trans (b23.mono b2.size)).grown g4 (by have := b2.size; omega) fun k hk => by have := (own3.lt k hk).1; have := h.lm.1; have := h.lm.2; omega) h.ll.1 _ _, M5, L5, K5, owns_same O4 fun k hk => heap_set_other _ _ _ _ (by have := (O4.lt k hk).1; have := h.ll.2; omega), h.lm, h.ll, h.lk, h.ne, by omega⟩, ⟨by omega, fun k hk q1 q2 q3 => ?_⟩⟩
    rw [heap_set_other _ _ _ _ q1, nb k (by omega) q3, b23.block k (by omega), o2 k q2]
    exact b01.block k hk
  obtain ⟨sz, hsz⟩ : ∃ sz, w.heap.size = sz := ⟨_, rfl⟩
  obtain ⟨sz2, hsz2⟩ : ∃ sz2, w2.heap.size = sz2 := ⟨_, rfl⟩
  have hl3 : b1 ≤ w3.heap.size := by omega
  have h9 : ((n : Int) == (n : Int)) = true := by simp
  rw [hsz] at HX2
  rw [hsz2] at HX3
  clear h h1 b01 hx1 s1 o2 k2 s2 b2 own2 l2 m2 x2 b23 x3 s3 own3 l0 hn
  go_enter Try.func24, Try.ntmps24
  go_wp2_with (first
    | (refine wpList_boxAt rfl 42 (.tmp 1) rfl (tlA t) rfl ?_; rw [hw1, hsz])
    | (refine wpList_load_at rfl 42 (.tmp 6) rfl ⟨sz, 0, none⟩ rfl (tlA t) (load_tele HX2.out) ?_)
    | (refine wpList_one rfl (.tmp 16) rfl t rfl ?_; rw [hw3, hsz2])
    | (at_builtin; go_loud (refine wpList_push rfl (.tmp 15) (.tmp 17) rfl b1 (.slice a n cap) acc rfl HO3.out sz2 t (0, 0) rfl HX3.out (by rw [HN.out]; omega) hl3 ?_; intro v4 w4 O4 g4; obtain ⟨a4, c4, rfl⟩ := own_slice O4 (n := n + 1) (by simp [HN.out]); obtain ⟨L4, M5, L5, T5, F5⟩ := HK.out O4 g4; have cl4 := cell0 L4; have fl4 := thaw (j := 0) L4; have cm5 := cell0 M5; have cl5 := cell0 L5; clear O4 g4 L4 M5 L5)))
  go_ret
  exact ⟨rfl, ⟨_, T5⟩, F5⟩
theorem take_snoc {l : List Tl} {k : Nat} {t : Tl} (h : l[k]? = some t) : l.take (k + 1) = l.take k ++ [t] := by
  rw [List.take_add_one, h]
  rfl
set_option maxRecDepth 100000 in
set_option maxHeartbeats 2000000 in
theorem each_any {w0 : World} {b1 mb lb kb ub : Nat} {mo : Nat} {m0 vu : Value} {l : List Tl} {w : World} (h : Tq w0 b1 mb lb kb (mo : Int) [] m0 w) (hmo : 1 ≤ mo) (hu : w.heap[ub]? = some (.cells #[vu] 27 (0, 0))) {B : Nat} (ho : Own w B vu l) (hB : ub < b1 ∧ ub ≠ lb ∧ ub ≠ kb) (hv : ∀ k, vu.ownBlock = some k → k < b1 ∧ k ≠ lb ∧ k ≠ kb) (hl : l.length ≤ 1024) :
    Calls Try.prog 27 #[.func (.func 24) #[] #[.pointer (some ⟨kb, 0, none⟩), .pointer (some ⟨lb, 0, none⟩), .pointer (some ⟨mb, 0, none⟩)], .pointer (some ⟨ub, 0, none⟩)] w fun e w' => e = .returned (.tuple #[]) ∧ ∃ m', Tq w0 b1 mb lb kb (mo : Int) (l.take mo) m' w' := by
  obtain ⟨n, hn⟩ : ∃ n, l.length = n := ⟨_, rfl⟩
  obtain ⟨a, cap, rfl⟩ := own_slice ho hn
  have cu := cell0 hu
  have HN : Hid (l.length = n) := hn
  have HT0 : Hid (∃ m, Tq w0 b1 mb lb kb (mo : Int) (l.take 0) m w) := ⟨_, by simpa using h⟩
  have HS : Hid (ub < b1 ∧ ub ≠ lb ∧ ub ≠ kb ∧ (∀ k, (Value.slice a n cap).ownBlock = some k → k < b1 ∧ k ≠ lb ∧ k ≠ kb)) := ⟨hB.1, hB.2.1, hB.2.2, hv⟩
  have HO : Hid (Own w B (.slice a n cap) l) := ho
  rw [hn] at hl
  clear hn h hu ho hB hv
  go_enter Try.func27, Try.ntmps27
  go_wp2_with fail
  go_loopw [7] (fun ci wq => ∃ k : Nat, ci = .int .i64 k ∧ k ≤ n ∧ k < mo ∧ Hid (∃ m, Tq w0 b1 mb lb kb (mo : Int) (l.take k) m wq) ∧ Hid (Own wq B (.slice a n cap) l)) (fun ci _ => n - (intOf ci).toNat)
  case atStart => exact ⟨0, rfl, Nat.zero_le _, hmo, HT0, HO⟩
  case round =>
    clear HT0 HO cu
    obtain ⟨k, rfl, hk, hkm, HT, HO⟩ := hrel
    by_cases hlt : k < n
    · have h3 : (k : Int) < (n : Int) := by omega
      have hk' : k < l.length := by rw [HN.out]; exact hlt
      obtain ⟨g, c, e1, lg, hld⟩ := own_item HO.out HN.out hk'
      simp only [Value.slice.injEq, true_and] at e1
      obtain ⟨rfl, rfl⟩ := e1
      obtain ⟨t, ht⟩ : ∃ t, l[k]'hk' = t := ⟨_, rfl⟩
      rw [ht] at hld
      have hld0 := hld wr rfl
      have HTK : Hid (l.take (k + 1) = l.take k ++ [t]) := take_snoc (by rw [List.getElem?_eq_getElem hk', ht])
      obtain ⟨m, Tm⟩ := HT.out
      obtain ⟨w1, hw1⟩ : ∃ w1, wr.alloc (.cells (tlA t) 42) = w1 := ⟨_, rfl⟩
      have b1' : Below wr.heap.size wr w1 := by rw [← hw1]; exact (Below.refl _ _).alloc (Nat.le_refl _) _
      have hx1 : w1.heap[wr.heap.size]? = some (.cells (tlA t) 42 (0, 0)) := by rw [← hw1]; exact World.alloc_heap_new _ _
      obtain ⟨sz, hsz⟩ : ∃ sz, wr.heap.size = sz := ⟨_, rfl⟩
      rw [hsz] at hx1
      have HZ0 : Hid ((wr.alloc (.cells (tlA tl0) 42)).heap[sz]? = some (.cells (tlA tl0) 42 (0, 0)) ∧ (wr.alloc (.cells (tlA tl0) 42)).setRow sz (tlA t) = w1) := ⟨by rw [← hsz]; exact World.alloc_heap_new _ _, by rw [← hsz, alloc_setRow, hw1]⟩
      have O1 := owns_go HO.out b1'
      have cT := gath_any (Tm.go b1') t k (by rw [List.length_take]; omega) (by omega)
      have HF : Hid (∀ w', Tf lb kb m w1 w' → Own w' B (.slice (some ⟨g, 0, none⟩) n cap) l) := fun w' hf => owns_same O1 fun j hj => by
        obtain ⟨q1, q2, q3⟩ := HS.out.2.2.2 j hj
        exact hf.block j ((O1.lt j hj).2) q2 q3 fun e => by have := (Tm.own.lt j e).1; omega
      have HX1 : Hid (w1.heap[sz]? = some (.cells (tlA t) 42 (0, 0))) := hx1
      have HLD : Hid ((loadVar 42 ⟨g, k * 19, none⟩).run Try.prog wr = .ok (.agg (tlA t)) wr) := hld0
      clear hld hld0 HT HO Tm b1' O1 hx1 ht hk'
      by_cases hm : k + 1 < mo
      · have d1 : decide ((k : Int) + 1 < (mo : Int)) = true := decide_eq_true (by omega)
        rw [d1] at cT
        go_wp2_with (first
          | (refine wpList_load_at rfl 42 (.tmp 10) rfl ⟨g, k * 19, none⟩ rfl (tlA t) HLD.out ?_)
          | (refine wpList_allocTele rfl rfl ?_)
          | (refine wpList_store_row rfl 42 (.tmp 4) (.tmp 11) rfl sz (tlA t) rfl rfl 42 (tlA tl0) HZ0.out.1 infoTele rfl (tlA_one _) ?_; rw [HZ0.out.2])
          | (refine wpList_load_at rfl 42 (.tmp 4) rfl ⟨sz, 0, none⟩ rfl (tlA t) (load_tele HX1.out) ?_)
          | (go_at_call 24; refine cT.mono ?_; rintro e w2 ⟨rfl, ⟨m2, T2⟩, F2⟩; have HO2 := HF.out w2 F2; clear cT F2))
        go_roundw
        case rel => exact ⟨k + 1, by go_num, by omega, hm, ⟨m2, by rw [HTK.out]; exact T2⟩, HO2⟩
        case measure => simp [intOf]; omega
      · have d1 : decide ((k : Int) + 1 < (mo : Int)) = false := decide_eq_false (by omega)
        rw [d1] at cT
        have HTM : Hid (∀ m' u, Tq w0 b1 mb lb kb (mo : Int) (l.take k ++ [t]) m' u → Tq w0 b1 mb lb kb (mo : Int) (l.take mo) m' u) := fun m' u hq => by
          rw [show mo = k + 1 by omega, HTK.out]
          rw [show mo = k + 1 by omega] at hq
          exact hq
        go_wp2_with (first
          | (refine wpList_load_at rfl 42 (.tmp 10) rfl ⟨g, k * 19, none⟩ rfl (tlA t) HLD.out ?_)
          | (refine wpList_allocTele rfl rfl ?_)
          | (refine wpList_store_row rfl 42 (.tmp 4) (.tmp 11) rfl sz (tlA t) rfl rfl 42 (tlA tl0) HZ0.out.1 infoTele rfl (tlA_one _) ?_; rw [HZ0.out.2])
          | (refine wpList_load_at rfl 42 (.tmp 4) rfl ⟨sz, 0, none⟩ rfl (tlA t) (load_tele HX1.out) ?_)
          | (go_at_call 24; refine cT.mono ?_; rintro e w2 ⟨rfl, ⟨m2, T2⟩, F2⟩; clear cT F2))
        exact bodyPost_ret (results_none rfl _ _ _) rfl ⟨rfl, m2, HTM.out _ _ T2⟩
    · have h3 : ¬ (k : Int) < (n : Int) := by omega
      obtain ⟨m, Tm⟩ := HT.out
      have HE : Hid (l.take mo = l.take k) := by
        show _ = _
        rw [List.take_of_length_le (by rw [HN.out]; omega), List.take_of_length_le (by rw [HN.out]; omega)]
      have HM : Hid (Tq w0 b1 mb lb kb (mo : Int) (l.take k) m wr) := Tm
      clear HT Tm HO
      go_wp2_with fail
      go_end0
      exact ⟨rfl, m, by rw [HE.out]; exact HM.out⟩
end Go.Proofs.Ytdplacpdbknlgaa.Lk
