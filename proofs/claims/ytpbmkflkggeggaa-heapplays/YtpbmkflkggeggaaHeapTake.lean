/-
  The first item is taken out.
-/
import Derived.Test.YtpbmkflkggeggaaHeapRise
import Derived.Test.YtpbmkflkggeggaaHeapSink
namespace Go.Proofs.Ytpbmkflkggeggaa.Hp
set_option linter.unusedVariables false
set_option linter.unusedSimpArgs false
open Go Go.RowKit Go.Shelf Go.Proofs
attribute [local go_sem] Oper.semAt_some
theorem take_mem {f : It → List Value} (hf : ∀ y, (f y).length = 3) : ∀ (l : List It) (m : Nat), (rowL f l).take (m * 3) = rowL f (l.take m)
  | [], m => by simp [rowL]
  | y :: l, 0 => by simp [rowL]
  | y :: l, m + 1 => by
    obtain ⟨p, q, r, e⟩ : ∃ p q r, f y = [p, q, r] := by
      have := hf y
      match hy : f y, this with
      | [p, q, r], _ => exact ⟨p, q, r, rfl⟩
    have ih := take_mem hf l m
    have e1 : rowL f (y :: l) = p :: q :: r :: rowL f l := by simp [rowL, e]
    have e2 : rowL f ((y :: l).take (m + 1)) = p :: q :: r :: rowL f (l.take m) := by simp [rowL, e]
    rw [e1, e2, ← ih, show (m + 1) * 3 = m * 3 + 3 by omega]
    rfl
/- A row is cut. -/
theorem row_cut {B : Nat} {w : World} {g n cap m : Nat} {l : List It} (hl : l.length = n) (hm : m ≤ n) (hr : w.ownsRow B 65 3 (.slice (some ⟨g, 0, none⟩) n cap) n (rowL itL l)) :
    w.ownsRow B 65 3 (.slice (some ⟨g, 0, none⟩) m cap) m (rowL itL (l.take m)) := by
  refine ⟨by rw [rowL_len itL_len, List.length_take]; omega, Or.inr ?_⟩
  rcases hr.2 with ⟨q, _⟩ | ⟨g', cap', cur, e, hb, hg, hnc, hcm, hcs, htake⟩
  · cases q
  · cases e
    refine ⟨g, cap, cur, rfl, hb, hg, by omega, hcm, hcs, ?_⟩
    rw [← take_mem itL_len, ← htake, List.take_take, Nat.min_eq_left (by omega)]
theorem HAt.cut {B : Nat} {w : World} {b g n cap m : Nat} {l : List It} {c : Nat} (h : HAt B w b (.slice (some ⟨g, 0, none⟩) n cap) l c) (hn : l.length = n) (hm : m ≤ n) :
    HAt B (w.setCell ⟨b, 1, none⟩ (.slice (some ⟨g, 0, none⟩) m cap)) b (.slice (some ⟨g, 0, none⟩) m cap) (l.take m) c ∧ Tn b (.slice (some ⟨g, 0, none⟩) n cap) (.slice (some ⟨g, 0, none⟩) m cap) w (w.setCell ⟨b, 1, none⟩ (.slice (some ⟨g, 0, none⟩) m cap)) := by
  have hgb : g ≠ b := fun e => h.apart (by rw [e]; rfl)
  refine ⟨⟨?_, ?_, ?_, fun o => by rw [World.frozen?_setCell]; exact h.froz o, ?_, fun e => hgb (by cases e; rfl), h.low⟩, ⟨rfl, rfl, rfl, by simp [World.setCell], fun k _ hb _ => Below.heap_setCell _ _ _ k hb, fun k hk => Or.inl (by cases hk; rfl)⟩⟩
  · exact (World.cell?_setCell_other _ _ _ _ (by intro e; cases e)).trans h.less
  · exact World.cell?_setCell_same _ _ _ h.items
  · exact (World.cell?_setCell_other _ _ _ _ (by intro e; cases e)).trans h.puts
  · have hr := h.row
    rw [hn] at hr
    have := row_cut hn hm hr
    rw [List.length_take, hn, Nat.min_eq_left hm]
    exact owns_same this fun k hk => Below.heap_setCell _ _ _ k (by cases hk; exact hgb)
/- Two results: a struct, and one in a slot. -/
theorem results_cell_tmp {fn : Func} {p q : Tmp} {ty : TypeId} (h : fn.results = #[.cell p ty, .tmp q]) (tmps : Array Value) (w : World) (N : Nat) (cs : Array Value)
    (hp : tmps.getD p undef = .pointer (some ⟨N, 0, none⟩)) (hg : (loadVar ty ⟨N, 0, none⟩).run Try.prog w = .ok (.agg cs) w) :
    (results fn tmps).run Try.prog w = .ok (.tuple #[.agg cs, tmps.getD q undef]) w := by
  have hp' : tmps[p]?.getD undef = .pointer (some ⟨N, 0, none⟩) := by simpa using hp
  simp [results, h, hp', asAddr, hg]
theorem take_none (B b : Nat) (v : Value) (c : Nat) (w : World) (h : HAt B w b v [] c) : Calls Try.prog 38 #[.pointer (some ⟨b, 0, none⟩)] w fun e w' => e = .returned (.tuple #[.agg #[.int .i64 0, .int .i64 0, .int .i64 0], .bool false]) ∧ Below w.heap.size w w' := by
  obtain ⟨va, vc, rfl, _⟩ := own_form h.row
  have h1 := h.items
  have hbl := h.lt
  simp only [List.length_nil] at h1
  clear h
  go_enter Try.func38, Try.ntmps38
  go_wp2
  refine bodyPost_ret (results_cell_tmp Try.results38 _ _ w.heap.size _ rfl (by go_simp)) rfl ⟨rfl, (Below.refl _ _).alloc (Nat.le_refl _) _⟩
set_option maxHeartbeats 4000000 in
theorem take_any (B b : Nat) (v : Value) (l : List It) (c : Nat) (w : World) (h : HAt B w b v l c) (hm : l.length ≤ 1000000) (hl0 : 0 < l.length) (hp : Heap l) :
    Calls Try.prog 38 #[.pointer (some ⟨b, 0, none⟩)] w fun e w' => e = .returned (.tuple #[.agg #[.int .i64 (l[0]).k, .int .i64 (l[0]).n, .int .i64 ((l[0]).t : Nat)], .bool true]) ∧ ∃ l' v', HAt B w' b v' l' c ∧ l'.Perm (outL l hl0) ∧ Heap l' ∧ Tn b v v' w w' := by
  obtain ⟨g, cap, rfl, hgb, hgl, hBg, hlc, hcm, hfz, hc⟩ := h.form hl0
  obtain ⟨m, hm1⟩ : ∃ m, l.length = m + 1 := ⟨l.length - 1, by omega⟩
  have hml : m < l.length := by omega
  obtain ⟨i0, i1, i2⟩ := hc 0 hl0
  simp only [Nat.zero_mul, Nat.zero_add] at i0 i1 i2
  obtain ⟨j0, j1, j2⟩ := hc m hml
  have hbl := h.lt
  have h1 := h.items
  obtain ⟨x, hx⟩ : ∃ x, l[0] = x := ⟨_, rfl⟩
  obtain ⟨z, hz⟩ : ∃ z, l[m] = z := ⟨_, rfl⟩
  have HS : Hid (outL l hl0 = ((l.set 0 z).set m ⟨0, 0, 0⟩).take m) := by
    unfold Hid outL
    have e : l.length - 1 = m := by omega
    simp only [e, hz]
    apply List.ext_getElem
    · simp
    · intro k k1 k2
      simp at k1
      rw [List.getElem_take, List.getElem_take]
      exact (List.getElem_set_ne (show m ≠ k by omega) _).symm
  have cK := fun (w2 : World) (v2 : Value) (l2 : List It) (h2 : HAt B w2 b v2 l2 c) (h3 : Hid (l2 = outL l hl0)) => sink_any B b v2 l2 c w2 h2 (by rw [h3.out, outL_len]; omega) 0 (by rw [h3.out]; exact Or.elim (Nat.eq_zero_or_pos m) (fun e => Or.inr (List.eq_nil_of_length_eq_zero (by rw [outL_len]; omega))) (fun e => Or.inl (by rw [outL_len]; omega))) (by rw [h3.out]; exact sink_start hp hl0) (by omega)
  rw [hx] at i0 i1 i2 ⊢
  rw [hz] at j0 j1 j2
  have R : Hid (HAt B w b (.slice (some ⟨g, 0, none⟩) (m + 1) cap) l c) := by unfold Hid; rw [← hm1]; exact h
  rw [hm1] at h1 hlc ⊢
  have HM : Hid (l.length = m + 1) := hm1
  have f0 := hfz 0
  have f1 := hfz 1
  have f2 := hfz 2
  have g0 := hfz (m * 3)
  have g1 := hfz (m * 3 + 1)
  have g2 := hfz (m * 3 + 2)
  have g3 := h.froz 1
  clear hc hfz hx hz h hm1
  go_enter Try.func38, Try.ntmps38
  go_wp2
  go_region
  go_wp2
  go_region
  obtain ⟨W5, hW5⟩ : ∃ W5, (((put3 w g 0 z).alloc (.cells #[.int .i64 0, .int .i64 0, .int .i64 0] 65)).alloc (.cells #[.int .i64 x.k, .int .i64 x.n, .int .i64 (x.t : Nat)] 65)).drew.drew = W5 := ⟨_, rfl⟩
  have hW5' := hW5
  unfold put3 at hW5'
  simp only [Nat.zero_mul, Nat.zero_add] at hW5'
  rw [hW5']
  clear hW5'
  have q1 := R.out.put HM.out 0 z hl0
  have b5 : Below (put3 w g 0 z).heap.size (put3 w g 0 z) W5 := by rw [← hW5]; exact ((((Below.refl _ _).alloc (Nat.le_refl _) _).alloc (by simp) _).drew).drew
  have h5 := q1.1.go b5
  have t5 := q1.2.then b5
  have s5 : W5.heap.size = w.heap.size + 2 := by rw [← hW5]; simp [put3_size]
  have hs := put3_size w g 0 z
  have a0 : W5.cell? ⟨w.heap.size, 0, none⟩ = some (.int .i64 0) := by rw [← hW5, ← hs]; simp
  have a1 : W5.cell? ⟨w.heap.size, 1, none⟩ = some (.int .i64 0) := by rw [← hW5, ← hs]; simp
  have a2 : W5.cell? ⟨w.heap.size, 2, none⟩ = some (.int .i64 0) := by rw [← hW5, ← hs]; simp
  have x0 : W5.cell? ⟨w.heap.size + 1, 0, none⟩ = some (.int .i64 x.k) := by rw [← hW5, ← hs]; simp
  have x1 : W5.cell? ⟨w.heap.size + 1, 1, none⟩ = some (.int .i64 x.n) := by rw [← hW5, ← hs]; simp
  have x2 : W5.cell? ⟨w.heap.size + 1, 2, none⟩ = some (.int .i64 (x.t : Nat)) := by rw [← hW5, ← hs]; simp
  have z0 : ∀ o, W5.frozen? ⟨w.heap.size, o, none⟩ = false := fun o => by rw [← hW5, ← hs]; simp
  clear hW5 b5 q1 i0 i1 i2 j0 j1 j2 f0 f1 f2 g0 g1 g2 g3 h1
  obtain ⟨g', cap', e5, _, _, _, _, _, hfz, hc⟩ := h5.form (by rw [List.length_set]; exact hl0)
  rw [List.length_set, HM.out] at e5
  cases e5
  obtain ⟨j0, j1, j2⟩ := hc m (by rw [List.length_set]; exact hml)
  have g0 := hfz (m * 3)
  have g1 := hfz (m * 3 + 1)
  have g2 := hfz (m * 3 + 2)
  have g3 := h5.froz 1
  have h1 := h5.items
  have q6 := h5.put (by rw [List.length_set, HM.out]) m ⟨0, 0, 0⟩ (by rw [List.length_set]; exact hml)
  have q7 := q6.1.cut (by rw [List.length_set, List.length_set, HM.out]) (Nat.le_succ m)
  have t7 := (t5.trans q6.2).trans q7.2
  have cK' := cK _ _ _ q7.1 HS.out.symm
  have HS2 : Hid (outL l hl0 = ((l.set 0 z).set m ⟨0, 0, 0⟩).take m) := HS
  clear hc hfz cK HS
  go_wp2_with fail
  go_at_call 48
  refine cK'.mono ?_
  rintro e w8 ⟨rfl, l8, h8, p8, hp8, t8⟩
  have T58 := (q6.2.trans q7.2).trans t8
  have e0 : w8.heap[w.heap.size]? = W5.heap[w.heap.size]? := T58.block _ (by omega) (by omega) (fun e => absurd (show g = w.heap.size from Option.some.inj e) (by omega))
  have e1 : w8.heap[w.heap.size + 1]? = W5.heap[w.heap.size + 1]? := T58.block _ (by omega) (by omega) (fun e => absurd (show g = w.heap.size + 1 from Option.some.inj e) (by omega))
  have y0 := (cell_same (o := 0) e0).trans a0
  have y1 := (cell_same (o := 1) e0).trans a1
  have y2 := (cell_same (o := 2) e0).trans a2
  have u0 := (cell_same (o := 0) e1).trans x0
  have u1 := (cell_same (o := 1) e1).trans x1
  have u2 := (cell_same (o := 2) e1).trans x2
  have r0 := fun o => (frozen_same (o := o) e0).trans (z0 o)
  have T8 : Hid (Tn b (.slice (some ⟨g, 0, none⟩) (m + 1) cap) (.slice (some ⟨g, 0, none⟩) m cap) w w8) := t5.trans T58
  clear t8 T58 t7 q7 q6 t5 h5
  have r00 := r0 0
  have r01 := r0 1
  have r02 := r0 2
  go_wp2
  have b9 : ∀ k, k ≠ w.heap.size → (((w8.setCell ⟨w.heap.size, 0, none⟩ (.int .i64 x.k)).setCell ⟨w.heap.size, 1, none⟩ (.int .i64 x.n)).setCell ⟨w.heap.size, 2, none⟩ (.int .i64 (x.t : Nat))).heap[k]? = w8.heap[k]? := fun k hk => (Below.heap_setCell _ _ _ k hk).trans ((Below.heap_setCell _ _ _ k hk).trans (Below.heap_setCell _ _ _ k hk))
  refine bodyPost_ret (results_cell_tmp Try.results38 _ _ w.heap.size _ rfl (by go_simp)) rfl ⟨rfl, l8, .slice (some ⟨g, 0, none⟩) m cap, ?_, p8.trans (by rw [HS2.out]), hp8, ?_⟩
  · refine h8.same ?_ ?_
    · exact b9 b (by omega)
    · intro k hk
      exact b9 k (by have : g = k := Option.some.inj hk; omega)
  · exact ⟨T8.out.os, T8.out.tape, T8.out.output, by simp only [World.setCell, Array.size_modify]; exact T8.out.size, fun k hk hb hv => (b9 k (by omega)).trans (T8.out.block k hk hb hv), T8.out.own⟩
end Go.Proofs.Ytpbmkflkggeggaa.Hp
