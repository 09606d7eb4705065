/-
  The law CodecCuts: bytes of any state, cut anywhere, or with bytes behind, are refused; likewise an event's.
-/
import Derived.Test.YtgliglealchjjaaCodecFace
namespace Go.Proofs.Ytgliglealchjjaa.Codec
set_option linter.unusedVariables false
set_option linter.unusedSimpArgs false
open Go Go.RowKit

theorem place_nat (v : Int) (n : Nat) (h : 0 < n) : ∃ k : Nat, place v (n : Int) = (k : Int) ∧ k < n := by
  have h2 := Int.tmod_lt_of_pos v (show (0 : Int) < n by omega)
  have h3 := tmod_low v n (by omega)
  have hb : 0 ≤ place v n ∧ place v n < n := by unfold place; split <;> omega
  obtain ⟨k, hk⟩ := Int.eq_ofNat_of_zero_le hb.1
  exact ⟨k, hk, by omega⟩
/- What GetState answers where the bytes are none of a state's. -/
theorem state_none (M : Nat) (hM24 : M ≤ 16777216) (w : World) (a : Option Addr) (n cap : Nat) (zs : List Int) (hM : zs.length ≤ M) (hr : Row w a n zs) (hc1 : n ≤ cap) (hc2 : cap ≤ 9223372036854775807) (h0 : a = none → cap = 0) (hn : cState.whole zs = none) :
    Calls Try.prog 30 #[.slice a n cap] w fun e w' => e = .returned (.tuple #[.agg #[.int .i64 0, .int .i64 0, .bool false, .slice none 0 0, .slice none 0 0, .slice none 0 0, .slice none 0 0, .slice none 0 0, .int .i64 0, .int .i64 0], .int .i64 4]) ∧ Below w.heap.size w w' := by
  refine (GetState_any M cState stateEl heldState (readState M hM24) w a n cap zs hM hr hc1 hc2 h0).mono ?_
  rintro e w' ⟨b, ⟨x, cs, F, q, _⟩ | ⟨q, rfl⟩⟩
  · rw [hn] at q; cases q
  · exact ⟨rfl, b⟩
theorem event_none (M : Nat) (hM24 : M ≤ 16777216) (w : World) (a : Option Addr) (n cap : Nat) (zs : List Int) (hM : zs.length ≤ M) (hr : Row w a n zs) (hc1 : n ≤ cap) (hc2 : cap ≤ 9223372036854775807) (h0 : a = none → cap = 0) (hn : cEvent.whole zs = none) :
    Calls Try.prog 17 #[.slice a n cap] w fun e w' => e = .returned (.tuple #[.agg #[.int .i64 0, .int .i64 0, .int .i64 0, .int .i64 0, .int .i64 0, .bool false, .slice none 0 0], .int .i64 4]) ∧ Below w.heap.size w w' := by
  refine (GetEvent_any M cEvent eventEl heldEvent (readEvent M hM24) w a n cap zs hM hr hc1 hc2 h0).mono ?_
  rintro e w' ⟨b, ⟨x, cs, F, q, _⟩ | ⟨q, rfl⟩⟩
  · rw [hn] at q; cases q
  · exact ⟨rfl, b⟩

set_option maxRecDepth 100000 in
set_option maxHeartbeats 4000000 in
theorem cuts_all (s : TState) (cs0 : Array Value) (v : TEvent) (cs1 : Array Value) (at_ : Int) (a : Option Addr) (n cap : Nat) (zs : List Int) (w : World) (hs0 : stateEl (fun g => g < w.heap.size) s cs0 w) (os : cState.ok s) (hv0 : eventEl (fun g => g < w.heap.size) v cs1 w) (ov : cEvent.ok v)
    (ls : (cState.put s).length ≤ 10485760) (lv : (cEvent.put v).length ≤ 10485760) (hr : Row w a n zs) (h0 : a = none → n = 0 ∧ cap = 0) (hnc : n ≤ cap) (hn : n ≤ 1048576) :
    Calls Try.prog 8 #[.agg cs0, .agg cs1, .int .i64 at_, .slice a n cap] w fun e w' => e = .returned (.bool true) ∧ Below w.heap.size w w' := by
  have hl := hr.len
  have hz0 := heldState.size hs0
  have hz1 := heldEvent.size hv0
  have i0 : (Try.prog.info? 74).map (·.size) = some cs0.size := by rw [hz0]; exact wsizeState
  have i1 : (Try.prog.info? 40).map (·.size) = some cs1.size := by rw [hz1]; exact wsizeEvent
  have B0 : Below w.heap.size w ((w.alloc (.cells cs0 74)).alloc (.cells cs1 40)) := ((Below.refl _ _).alloc (Nat.le_refl _) _).alloc (by simp) _
  have S0 : ((w.alloc (.cells cs0 74)).alloc (.cells cs1 40)).heap.size = w.heap.size + 2 := by simp
  have f0 : ((w.alloc (.cells cs0 74)).alloc (.cells cs1 40)).heap[w.heap.size]? = some (.cells cs0 74 (0, 0)) := by rw [alloc_old _ _ _ (by simp), heap_alloc_new]
  have f1 : ((w.alloc (.cells cs0 74)).alloc (.cells cs1 40)).heap[w.heap.size + 1]? = some (.cells cs1 40 (0, 0)) := by
    have := heap_alloc_new (w.alloc (.cells cs0 74)) (.cells cs1 40)
    rw [show (w.alloc (.cells cs0 74)).heap.size = w.heap.size + 1 by simp] at this
    exact this
  have cS := putHeldState _ s cs0 _ (heldState.stable hs0 fun g hg => B0.block g hg) (fun g hg => Nat.lt_of_lt_of_le hg B0.size) os (by omega)
  have cE := fun (u : World) (hu : Below w.heap.size w u) => putHeldEvent u v cs1 _ (heldEvent.stable hv0 fun g hg => hu.block g hg) (fun g hg => Nat.lt_of_lt_of_le hg hu.size) ov (by omega)
  have pS := gState.pos s
  have pE := gEvent.pos v
  have kS := fun k (hk : k < (cState.put s).length) => gState.cut s os k hk
  have kE := fun k (hk : k < (cEvent.put v).length) => gEvent.cut v ov k hk
  have tS := fun (h : zs.length ≠ 0) => gState.more s os zs hr.small h
  have tE := fun (h : zs.length ≠ 0) => gEvent.more v ov zs hr.small h
  have cW := awake_any
  generalize hbs : cState.put s = X at *
  generalize hbe : cEvent.put v = Y at *
  clear hs0 hv0 os ov hbs hbe
  obtain ⟨k0, hk0, hk0'⟩ := place_nat at_ X.length (by omega)
  obtain ⟨k1, hk1, hk1'⟩ := place_nat at_ Y.length (by omega)
  have p0 := fun u => place_any at_ (X.length : Int) u (by omega) (by omega)
  have p1 := fun u => place_any at_ (Y.length : Int) u (by omega) (by omega)
  rw [hk0] at p0
  rw [hk1] at p1
  have gx : ((X.length : Int) == 0) = false := by rw [beq_eq_false_iff_ne]; omega
  have gy : ((Y.length : Int) == 0) = false := by rw [beq_eq_false_iff_ne]; omega
  go_enter Try.func8, Try.ntmps8
  go_wp2_with (first
    | (refine wpList_load_row rfl 74 (.tmp 4) rfl w.heap.size rfl 74 cs0 (0, 0) _ f0 Try.underlying74 rfl i0 ?_)
    | (go_at_call 29; refine cS.mono ?_; rintro e w1 ⟨b1, rfl, m1, bel1, n1⟩; have B1 := bcat B0 bel1 (Nat.le_refl _))
    | (have X' := B1; refine wpList_load_row rfl 40 (.tmp 5) rfl (w.heap.size + 1) rfl 40 cs1 (0, 0) _ ((bel1.block _ (by rw [S0]; omega)).trans f1) Try.underlying40 rfl i1 ?_)
    | (have X' := B1; go_at_call 15; refine (cE _ B1).mono ?_; rintro e w2 ⟨b2, rfl, m2, bel2, n2⟩; have B2 := bcat B1 bel2 (Nat.le_refl _); have m1' := m1.later bel2; obtain ⟨ax, cx, rfl, rx, nx, lx, mx⟩ := m1'.form; obtain ⟨ay, cy, rfl, ry, ny, ly, my⟩ := m2.form; unfold maxLen at mx my; obtain ⟨gX, rfl⟩ := own_at m1'.own (by omega); obtain ⟨gY, rfl⟩ := own_at m2.own (by omega); have ltX := m1.lt gX rfl; have geX := n1 gX rfl; have geY := n2 gY rfl; have ltY := m2.lt gY rfl; rw [S0] at geX)
    | (have X' := B3; go_at_call 34; refine (p1 _).mono ?_; rintro e w9 ⟨rfl, hw9⟩; rw [hw9]; clear hw9 w9)
    | (have X' := B2; go_at_call 34; refine (p0 _).mono ?_; rintro e w9 ⟨rfl, hw9⟩; rw [hw9]; clear hw9 w9)
    | (have X' := B4; go_at_call 30; refine (state_none 16777216 (Nat.le_refl _) _ a5 (X.length + n) c5 (X ++ zs) (by rw [List.length_append]; omega) r5 l5 (by unfold maxLen at x5; omega) (fun h => (n5 h).2) (tS (by omega))).mono ?_; rintro e w6 ⟨rfl, bel6⟩; have B6 := bcat B5 bel6 (Nat.le_refl _); have m6 := m5Y.later bel6)
    | (have X' := B2; go_at_call 30; refine (state_none 16777216 (Nat.le_refl _) w2 (some ⟨gX, 0, none⟩) k0 cx (X.take k0) (by rw [List.length_take]; omega) (rx.head k0 (by omega)) (by omega) (by omega) (fun h => by cases h) (kS k0 hk0')).mono ?_; rintro e w3 ⟨rfl, bel3⟩)
    | (refine wpList_store_row rfl 74 (.tmp 11) (.tmp 35) rfl w3.heap.size #[.int .i64 0, .int .i64 0, .bool false, .slice none 0 0, .slice none 0 0, .slice none 0 0, .slice none 0 0, .slice none 0 0, .int .i64 0, .int .i64 0] rfl rfl 74 #[.int .i64 0, .int .i64 0, .bool false, .slice none 0 0, .slice none 0 0, .slice none 0 0, .slice none 0 0, .slice none 0 0, .int .i64 0, .int .i64 0] (heap_alloc_new w3 _) wsizeState rfl (by simp [Value.oneCell']) ?_; have B3 : Below w2.heap.size w2 ((w3.alloc (.cells #[.int .i64 0, .int .i64 0, .bool false, .slice none 0 0, .slice none 0 0, .slice none 0 0, .slice none 0 0, .slice none 0 0, .int .i64 0, .int .i64 0] 74)).setRow w3.heap.size #[.int .i64 0, .int .i64 0, .bool false, .slice none 0 0, .slice none 0 0, .slice none 0 0, .slice none 0 0, .slice none 0 0, .int .i64 0, .int .i64 0]) := below_row (bel3.alloc bel3.size _) bel3.size _)
    | (have X' := B6; go_at_call 17; refine (event_none 16777216 (Nat.le_refl _) _ a7 (Y.length + n) c7 (Y ++ zs) (by rw [List.length_append]; omega) r7 l7 (by unfold maxLen at x7; omega) (fun h => (n7 h).2) (tE (by omega))).mono ?_; rintro e w8 ⟨rfl, bel8⟩; have B8 := bcat B7 bel8 (Nat.le_refl _))
    | (have X' := B3; go_at_call 17; refine (event_none 16777216 (Nat.le_refl _) _ (some ⟨gY, 0, none⟩) k1 cy (Y.take k1) (by rw [List.length_take]; omega) ((ry.after B3).head k1 (by omega)) (by omega) (by omega) (fun h => by cases h) (kE k1 hk1')).mono ?_; rintro e w4 ⟨rfl, bel4⟩; have B3' := bcat B3 bel4 (Nat.le_refl _); rcases Nat.eq_zero_or_pos n with hnz | hnp; (have gn : ((n : Int) == 0) = true := by rw [hnz]; rfl); rotate_left; (have gn : ((n : Int) == 0) = false := by rw [beq_eq_false_iff_ne]; omega); rotate_left)
    | (have X' := B3'; refine wpList_store_row rfl 40 (.tmp 13) (.tmp 45) rfl w4.heap.size #[.int .i64 0, .int .i64 0, .int .i64 0, .int .i64 0, .int .i64 0, .bool false, .slice none 0 0] rfl rfl 40 #[.int .i64 0, .int .i64 0, .int .i64 0, .int .i64 0, .int .i64 0, .bool false, .slice none 0 0] (heap_alloc_new w4 _) wsizeEvent rfl (by simp [Value.oneCell']) ?_; have B4 : Below w2.heap.size w2 ((w4.alloc (.cells #[.int .i64 0, .int .i64 0, .int .i64 0, .int .i64 0, .int .i64 0, .bool false, .slice none 0 0] 40)).setRow w4.heap.size #[.int .i64 0, .int .i64 0, .int .i64 0, .int .i64 0, .int .i64 0, .bool false, .slice none 0 0]) := below_row (B3'.alloc B3'.size _) B3'.size _; have BW4 := bcat B2 B4 (Nat.le_refl _))
    | (have X' := B6; at_builtin; refine wpList_append_mine rfl (.tmp 75) (.tmp 76) rfl _ Y rfl m6 a n cap zs rfl (hr.after B6) (fun h => (h0 h).2) (by omega) ?_; intro v7 w7 m7 g7; have B7 := Goes.below_of B6 g7 (fun g hg => by have hg' : gY = g := Option.some.inj hg; have := B1.size; omega); obtain ⟨a7, c7, rfl, r7, n7, l7, x7⟩ := m7.form; rw [List.length_append, hl] at r7 l7)
    | (have X' := B4; at_builtin; refine wpList_append_mine rfl (.tmp 68) (.tmp 69) rfl _ X rfl (m1'.later B4) a n cap zs rfl (hr.after BW4) (fun h => (h0 h).2) (by omega) ?_; intro v5 w5 m5 g5; have B5 := Goes.below_of BW4 g5 (fun g hg => by have hg' : gX = g := Option.some.inj hg; omega); have m5Y := (m2.later B4).same (fun k hk => g5.block k ((m2.later B4).lt k hk) (fun e => by have e1 : gY = k := Option.some.inj hk; have e2 : gX = k := Option.some.inj e; omega)); obtain ⟨a5, c5, rfl, r5, n5, l5, x5⟩ := m5.form; rw [List.length_append, hl] at r5 l5)
    | (go_at_call 13; refine (cW _).mono ?_; rintro e w9 ⟨rfl, bel9⟩))
  · go_ret
    exact ⟨rfl, bcat BW4 bel9 (Nat.le_refl _)⟩
  · go_ret
    exact ⟨rfl, bcat B8 bel9 (Nat.le_refl _)⟩
end Go.Proofs.Ytgliglealchjjaa.Codec
