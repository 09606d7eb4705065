/-
  The law CodecStates: any state's bytes; any bytes as a state.
-/
import Derived.Test.YthdgpadakmdlkaaCodecTeleEq
import Derived.Test.YthdgpadakmdlkaaCodecRefGetState
import Derived.Test.YthdgpadakmdlkaaCodecRefPutState
import Derived.Test.YthdgpadakmdlkaaCodecSameState
namespace Go.Proofs.Ythdgpadakmdlkaa.Codec
set_option linter.unusedVariables false
set_option linter.unusedSimpArgs false
open Go Go.RowKit

def state0 : TState := (0, 0, false, [], [], [], [], [], 0, 0)
def stOr (r : Option TState) : TState := r.getD state0
def stErr (r : Option TState) : Int := if r.isSome then 0 else 4
theorem state0_at (u : World) : stateEl (fun _ => False) state0 #[.int .i64 0, .int .i64 0, .bool false, .slice none 0 0, .slice none 0 0, .slice none 0 0, .slice none 0 0, .slice none 0 0, .int .i64 0, .int .i64 0] u := ⟨_, _, _, _, _, rfl, ListAt.nil _ _ _ _, ListAt.nil _ _ _ _, ListAt.nil _ _ _ _, ListAt.nil _ _ _ _, ListAt.nil _ _ _ _⟩
/- A state in memory that was made since w. -/
def StAt (x : TState) (cs : Array Value) (u : World) : Prop := ∃ F, stateEl F x cs u ∧ ∀ g, F g → g < u.heap.size
theorem StAt.later {x : TState} {cs : Array Value} {u u' : World} (h : StAt x cs u) (b : Below u.heap.size u u') : StAt x cs u' := by
  obtain ⟨F, h1, h2⟩ := h
  exact ⟨F, heldState.stable h1 fun g hg => b.block g (h2 g hg), fun g hg => Nat.lt_of_lt_of_le (h2 g hg) b.size⟩
theorem StAt.size {x : TState} {cs : Array Value} {u : World} (h : StAt x cs u) : cs.size = 10 := by
  obtain ⟨F, h1, _⟩ := h
  exact heldState.size h1
theorem StAt.one {x : TState} {cs : Array Value} {u : World} (h : StAt x cs u) : (cs.all fun x => x.oneCell') = true := by
  obtain ⟨F, h1, _⟩ := h
  exact heldState.one h1
theorem GetState_det (M : Nat) (hM24 : M ≤ 16777216) (w : World) (a : Option Addr) (n cap : Nat) (zs : List Int) (r : Option TState) (e : cState.whole zs = r) (hM : zs.length ≤ M) (hr : Row w a n zs) (hc1 : n ≤ cap) (hc2 : cap ≤ 9223372036854775807) (h0 : a = none → cap = 0) :
    Calls Try.prog 19 #[.slice a n cap] w fun e w' => Below w.heap.size w w' ∧ ∃ cs, e = .returned (.tuple #[.agg cs, .int .i64 (stErr r)]) ∧ StAt (stOr r) cs w' := by
  refine (GetState_any M cState stateEl heldState (readState M hM24) w a n cap zs hM hr hc1 hc2 h0).mono ?_
  rintro e2 x2 ⟨b2, ⟨x, cs, F, q2, o2, i2, f2, rfl⟩ | ⟨q2, rfl⟩⟩
  · rw [q2] at e
    subst e
    exact ⟨b2, cs, rfl, F, i2, fun g hg => (f2 g hg).2⟩
  · rw [q2] at e
    subst e
    exact ⟨b2, _, rfl, _, state0_at _, fun g hg => hg.elim⟩
theorem refGetState_det (M : Nat) (hM24 : M ≤ 16777216) (w : World) (a : Option Addr) (n cap : Nat) (zs : List Int) (r : Option TState) (e : cState.whole zs = r) (hM : zs.length ≤ M) (hr : Row w a n zs) (hc1 : n ≤ cap) (hc2 : cap ≤ 9223372036854775807) (h0 : a = none → cap = 0) :
    Calls Try.prog 20 #[.slice a n cap] w fun e w' => Below w.heap.size w w' ∧ ∃ cs, e = .returned (.tuple #[.agg cs, .bool r.isSome]) ∧ StAt (stOr r) cs w' := by
  refine (refGetState_any M hM24 w a n cap zs hM hr hc1 hc2 h0).mono ?_
  rintro e2 x2 ⟨b2, ⟨x, cs, F, q2, i2, f2, rfl⟩ | ⟨q2, rfl⟩⟩
  · rw [q2] at e
    subst e
    exact ⟨b2, cs, rfl, F, i2, fun g hg => (f2 g hg).2⟩
  · rw [q2] at e
    subst e
    exact ⟨b2, _, rfl, _, state0_at _, fun g hg => hg.elim⟩
theorem state_sz (zs : List Int) (hb : Bytes zs) (B : Nat) (hB : zs.length ≤ B) : Sz (stOr (cState.whole zs)) B := by
  cases h : cState.whole zs with
  | none => exact ⟨Nat.zero_le _, (fun y hy => by cases hy), Nat.zero_le _, (fun y hy => by cases hy), Nat.zero_le _, (fun y hy => by cases hy), Nat.zero_le _, Nat.zero_le _⟩
  | some x =>
    refine sz_of_put x B ?_
    unfold Cod.whole at h
    obtain ⟨p, hp, hq⟩ := Option.bind_eq_some_iff.1 h
    split at hq
    · cases hq
      have := ((gState.iff _ _ _ hb).1 hp).1
      have e3 := congrArg List.length this
      rw [List.length_append] at e3
      omega
    · cases hq
theorem sameSt (u : World) (x : TState) (cs ds : Array Value) (h1 : StAt x cs u) (h2 : StAt x ds u) (hz : Sz x 140737488355328) :
    Calls Try.prog 22 #[.agg cs, .agg ds] u fun e w' => e = .returned (.bool true) ∧ Below u.heap.size u w' := by
  obtain ⟨F, a1, a2⟩ := h1
  obtain ⟨G, b1, b2⟩ := h2
  exact sameState_same u x cs ds F G a1 b1 a2 b2 hz
theorem iszState3 : (Try.prog.info? 57).map (·.size) = some 10 := by kernel_rfl

set_option maxRecDepth 100000 in
set_option maxHeartbeats 8000000 in
theorem states_all (x : TState) (csO : Array Value) (a : Option Addr) (n cap : Nat) (zs : List Int) (w : World) (hx : stateEl (fun g => g < w.heap.size) x csO w) (ho : cState.ok x) (lv : (cState.put x).length ≤ 10485760) (hr : Row w a n zs) (h0 : a = none → n = 0 ∧ cap = 0) (hnc : n ≤ cap) (hc2 : cap ≤ 9223372036854775807) (hn : n ≤ 1048576) :
    Calls Try.prog 5 #[.agg csO, .slice a n cap] w fun e w' => e = .returned (.bool true) ∧ Below w.heap.size w w' := by
  have cW := awake_any
  have hl := hr.len
  have h0' : a = none → cap = 0 := fun h => (h0 h).2
  have hwhole : cState.whole (cState.put x) = some x := gState.whole_put x ho
  have O0 : StAt x csO w := ⟨_, hx, fun g hg => hg⟩
  have hms := sz_of_put x 140737488355328 (by omega)
  have hmz := state_sz zs hr.small 140737488355328 (by omega)
  have cP := fun (u : World) (cs : Array Value) (h : StAt x cs u) => (show Calls Try.prog 18 #[.agg cs] u (Made (cState.put x) u) from by
    obtain ⟨F, h1, h2⟩ := h
    exact putHeldState u x cs F h1 h2 ho (by omega))
  have cQ := fun (u : World) (cs : Array Value) (h : StAt x cs u) => (show Calls Try.prog 21 #[.agg cs] u (Made (cState.put x) u) from by
    obtain ⟨F, h1, h2⟩ := h
    exact refPutHeldState u x cs F h1 h2 ho lv)
  have cY := fun (u : World) (b : Option Addr) (m c : Nat) (h1 : Row u b m (cState.put x)) (h2 : m ≤ c ∧ c ≤ 9223372036854775807 ∧ (b = none → c = 0)) => GetState_det 16777216 (by omega) u b m c _ _ hwhole (by omega) h1 h2.1 h2.2.1 h2.2.2
  have cZ := fun (u : World) (b : Option Addr) (c : Nat) (h1 : Row u b n zs) (h2 : n ≤ c ∧ c ≤ 9223372036854775807 ∧ (b = none → c = 0)) => GetState_det 16777216 (by omega) u b n c _ _ rfl (by omega) h1 h2.1 h2.2.1 h2.2.2
  have cV := fun (u : World) (h1 : Row u a n zs) => refGetState_det 16777216 (by omega) u a n cap _ _ rfl (by omega) h1 hnc hc2 h0'
  have sO := fun (u : World) (cs ds : Array Value) (h1 : StAt x cs u) (h2 : StAt x ds u) => sameSt u x cs ds h1 h2 hms
  have sZ := fun (u : World) (cs ds : Array Value) (h1 : StAt (stOr (cState.whole zs)) cs u) (h2 : StAt (stOr (cState.whole zs)) ds u) => sameSt u _ cs ds h1 h2 hmz
  have zO := O0.size
  have hres : (stErr (cState.whole zs) = 0 ∧ (cState.whole zs).isSome = true) ∨ (stErr (cState.whole zs) = 4 ∧ (cState.whole zs).isSome = false) := by
    unfold stErr
    cases (cState.whole zs).isSome
    · exact Or.inr ⟨rfl, rfl⟩
    · exact Or.inl ⟨rfl, rfl⟩
  have hY0 : stErr (some x) = 0 := rfl
  have hY1 : stOr (some x) = x := rfl
  rw [hY0, hY1] at cY
  clear hY0 hY1 hwhole hx ho hmz hms
  generalize stErr (cState.whole zs) = G at *
  generalize (cState.whole zs).isSome = OK at *
  generalize stOr (cState.whole zs) = z at *
  generalize cState.put x = ZO at *
  have hi : (Try.prog.info? 57).map (·.size) = some csO.size := by rw [zO]; exact iszState3
  have hcopy := fun (u : World) (hu : Below w.heap.size w u) => copy_any a n cap zs u (hr.after hu) (by omega) h0
  have B0 : Below w.heap.size w (w.alloc (.cells csO 57)) := (Below.refl w.heap.size w).alloc (Nat.le_refl _) _
  go_enter Try.func5, Try.ntmps5
  go_upto_region 2 with (first
    | (refine wpList_load_row rfl 57 (.tmp 2) rfl w.heap.size rfl 57 csO (0, 0) _ (heap_alloc_new w _) Try.underlying57 rfl hi ?_)
    | (go_at_call 18; refine (cP _ csO (O0.later B0)).mono ?_; rintro e1 w1 ⟨b1, rfl, m1, B1, n1⟩; obtain ⟨a1, c1, rfl, r1, z1, l1, k1⟩ := m1.form))
  have B01 := B1
  have B1w : Below w.heap.size w w1 := bcat B0 B01 (Nat.le_refl _)
  have hO : w1.heap[w.heap.size]? = some (.cells csO 57 (0, 0)) := (B01.block _ (by simp)).trans (heap_alloc_new w _)
  have O1 := O0.later B1w
  generalize hL : ZO.length = L at *
  clear B1 m1 n1 cP B01
  have k1' : c1 ≤ 9223372036854775807 := k1
  go_cut [6, 7] (fun p e wx => Below w1.heap.size w1 wx ∧ e = .int .i64 0 ∧ ∃ N csY, p = .pointer (some ⟨N, 0, none⟩) ∧ wx.heap[N]? = some (.cells csY 57 (0, 0)) ∧ StAt x csY wx)
  case first =>
    have hc1 := copy_any a1 L c1 ZO w1 r1 (by omega) z1
    go_wp2_with (first
      | (go_at_call 9; refine hc1.mono ?_; rintro e2 x2 ⟨ca, cc, rfl, crow, cown, cbel⟩; have cf := own_form cown)
      | (have X' := cf; go_at_call 19; refine (cY _ ca L cc crow cf).mono ?_; rintro e3 x3 ⟨b3, csY, rfl, E3⟩; have zY := E3.size)
      | (have X' := b3; refine wpList_store_row rfl 57 (.tmp 6) (.tmp 18) rfl x3.heap.size csY rfl rfl 57 #[.int .i64 0, .int .i64 0, .bool false, .slice none 0 0, .slice none 0 0, .slice none 0 0, .slice none 0 0, .slice none 0 0, .int .i64 0, .int .i64 0] (heap_alloc_new x3 _) (by rw [zY]; exact iszState3) (by rw [zY]; rfl) E3.one ?_))
    go_meet
    have z2 := (bcat cbel b3 (Nat.le_refl _)).size
    exact ⟨below_row ((bcat cbel b3 (Nat.le_refl _)).alloc z2 _) z2 csY, rfl, x3.heap.size, csY, rfl, setRow_heap _ _ _ _ _ _ (heap_alloc_new x3 _), E3.later (below_row ((Below.refl _ _).alloc (Nat.le_refl _) _) (Nat.le_refl _) csY)⟩
  case rest =>
  obtain ⟨B2, rfl, NY, csY, rfl, hY, EY⟩ := hcut
  rename World => w2
  have B2w : Below w.heap.size w w2 := bcat B1w B2 (Nat.le_refl _)
  have hO2 := (B2.block _ (lt_of_heap hO)).trans hO
  have r2 := r1.after B2
  go_upto_region 3 with fail
  go_cut [8, 9] (fun p e wx => Below w2.heap.size w2 wx ∧ e = .int .i64 G ∧ ∃ N csZ, p = .pointer (some ⟨N, 0, none⟩) ∧ wx.heap[N]? = some (.cells csZ 57 (0, 0)) ∧ StAt z csZ wx)
  case first =>
    have hc1 := hcopy w2 B2w
    go_wp2_with (first
      | (go_at_call 9; refine hc1.mono ?_; rintro e2 x2 ⟨ca, cc, rfl, crow, cown, cbel⟩; have cf := own_form cown)
      | (have X' := cf; go_at_call 19; refine (cZ _ ca cc crow cf).mono ?_; rintro e3 x3 ⟨b3, csZ, rfl, E3⟩; have zZ := E3.size)
      | (have X' := b3; refine wpList_store_row rfl 57 (.tmp 8) (.tmp 24) rfl x3.heap.size csZ rfl rfl 57 #[.int .i64 0, .int .i64 0, .bool false, .slice none 0 0, .slice none 0 0, .slice none 0 0, .slice none 0 0, .slice none 0 0, .int .i64 0, .int .i64 0] (heap_alloc_new x3 _) (by rw [zZ]; exact iszState3) (by rw [zZ]; rfl) E3.one ?_))
    go_meet
    have z2 := (bcat cbel b3 (Nat.le_refl _)).size
    exact ⟨below_row ((bcat cbel b3 (Nat.le_refl _)).alloc z2 _) z2 csZ, rfl, x3.heap.size, csZ, rfl, setRow_heap _ _ _ _ _ _ (heap_alloc_new x3 _), E3.later (below_row ((Below.refl _ _).alloc (Nat.le_refl _) _) (Nat.le_refl _) csZ)⟩
  case rest =>
  obtain ⟨B3, rfl, NZ, csZ, rfl, hZ, EZ⟩ := hcut
  rename World => w3
  have B3w : Below w.heap.size w w3 := bcat B2w B3 (Nat.le_refl _)
  have hO3 := (B3.block _ (lt_of_heap hO2)).trans hO2
  have hY3 := (B3.block _ (lt_of_heap hY)).trans hY
  have r3 := r2.after B3
  go_upto_region 4 with fail
  go_cut [10, 11] (fun p e wx => Below w3.heap.size w3 wx ∧ e = .bool OK ∧ ∃ N csW, p = .pointer (some ⟨N, 0, none⟩) ∧ wx.heap[N]? = some (.cells csW 57 (0, 0)) ∧ StAt z csW wx)
  case first =>
    have cV3 := cV w3 (hr.after B3w)
    go_wp2_with (first
      | (go_at_call 20; refine cV3.mono ?_; rintro e3 x3 ⟨b3, csW, rfl, E3⟩; have zW := E3.size)
      | (have X' := b3; refine wpList_store_row rfl 57 (.tmp 10) (.tmp 29) rfl x3.heap.size csW rfl rfl 57 #[.int .i64 0, .int .i64 0, .bool false, .slice none 0 0, .slice none 0 0, .slice none 0 0, .slice none 0 0, .slice none 0 0, .int .i64 0, .int .i64 0] (heap_alloc_new x3 _) (by rw [zW]; exact iszState3) (by rw [zW]; rfl) E3.one ?_))
    go_meet
    have z2 := b3.size
    exact ⟨below_row (b3.alloc z2 _) z2 csW, rfl, x3.heap.size, csW, rfl, setRow_heap _ _ _ _ _ _ (heap_alloc_new x3 _), E3.later (below_row ((Below.refl _ _).alloc (Nat.le_refl _) _) (Nat.le_refl _) csW)⟩
  case rest =>
  obtain ⟨B4, rfl, NW, csW, rfl, hW, EW⟩ := hcut
  rename World => w4
  have B4w : Below w.heap.size w w4 := bcat B3w B4 (Nat.le_refl _)
  have hO4 := (B4.block _ (lt_of_heap hO3)).trans hO3
  have hY4 := (B4.block _ (lt_of_heap hY3)).trans hY3
  have hZ4 := (B4.block _ (lt_of_heap hZ)).trans hZ
  have r4 := r3.after B4
  have EY4 := (EY.later B3).later B4
  have EZ4 := EZ.later B4
  have O4 := O0.later B4w
  have hconv := fun (u : World) (hu : Below w4.heap.size w4 u) => conv_row (r4.after hu) c1
  have same : ((strOfNums ZO).toList != (strOfNums ZO).toList) = false := by simp
  have hiY : (Try.prog.info? 57).map (·.size) = some csY.size := by rw [EY.size]; exact iszState3
  have hiZ : (Try.prog.info? 57).map (·.size) = some csZ.size := by rw [EZ.size]; exact iszState3
  have hiW : (Try.prog.info? 57).map (·.size) = some csW.size := by rw [EW.size]; exact iszState3
  go_upto_region 5 with fail
  go_cut [60] (fun v wx => v = .bool false ∧ Below w4.heap.size w4 wx)
  case first =>
    have S0 : Below w4.heap.size w4 w4.drew := drew_below4 w4
    clear cY cZ cV cW sZ
    rcases hres with ⟨rfl, rfl⟩ | ⟨rfl, rfl⟩
    · refine start_held (S := fun u => Below w4.heap.size w4 u) 30 rfl (by kernel_rfl) S0 ?_
      simp only [Array.replicate_succ, Array.replicate_zero, List.push_toArray, List.nil_append, List.cons_append]
      refine take_held 0 S0 rfl (by kernel_rfl) (by kernel_rfl) (by kernel_rfl) (fun _ _ _ h => h) (by kernel_rfl) (v := .slice a1 L c1) ?ya0 ?ra0
      case ya0 => (intro u hu; clear sO cQ; go_simp; try rfl)
      simp only [Act.put, List.setIfInBounds_toArray, List.set_cons_zero, List.set_cons_succ]
      refine take_held 1 S0 rfl (by kernel_rfl) (by kernel_rfl) (by kernel_rfl) (fun _ _ _ h => h) (by kernel_rfl) (v := .string (strOfNums ZO)) ?ya1 ?ra1
      case ya1 => (intro u hu; have hq := hconv u hu; clear sO cQ; go_simp; try rfl)
      simp only [Act.put, List.setIfInBounds_toArray, List.set_cons_zero, List.set_cons_succ]
      refine take_held 2 S0 rfl (by kernel_rfl) (by kernel_rfl) (by kernel_rfl) (fun _ _ _ h => h) (by kernel_rfl) (v := .agg csO) ?ya2 ?ra2
      case ya2 => (intro u hu; exact run_load_op3 57 (.tmp 2) rfl w.heap.size csO rfl (run_loadVar_row _ _ _ _ csO (0, 0) _ ((hu.block _ (lt_of_heap hO4)).trans hO4) Try.underlying57 rfl hi))
      simp only [Act.put, List.setIfInBounds_toArray, List.set_cons_zero, List.set_cons_succ]
      refine call_held 3 rfl (by kernel_rfl) (by kernel_rfl) 21 #[.agg csO] (by go_simp) _ (cQ _ csO (O4.later S0)) ?_
      rintro e5 x5 ⟨b5, rfl, m5, l5, n5⟩
      have S5 : Below w4.heap.size w4 x5 := bcat S0 l5 (Nat.le_refl _)
      have v5 := m5.conv
      refine Or.inl ⟨_, rfl, S5, ?_⟩
      simp only [Act.put, List.setIfInBounds_toArray, List.set_cons_zero, List.set_cons_succ]
      refine read_held 4 rfl (by kernel_rfl) (by kernel_rfl) (.string (strOfNums ZO)) (by clear sO cQ; go_simp) S5 ?_
      simp only [Act.put, List.setIfInBounds_toArray, List.set_cons_zero, List.set_cons_succ]
      refine take_held 5 S5 rfl (by kernel_rfl) (by kernel_rfl) (by kernel_rfl) (fun _ _ _ h => h) (by kernel_rfl) (v := .bool false) ?ya3 ?ra3
      case ya3 => (intro u hu; clear sO cQ; go_simp; try rfl)
      simp only [Act.put, List.setIfInBounds_toArray, List.set_cons_zero, List.set_cons_succ]
      refine take_held 6 S5 rfl (by kernel_rfl) (by kernel_rfl) (by kernel_rfl) (fun _ _ _ h => h) (by kernel_rfl) (v := .bool false) ?ya4 ?ra4
      case ya4 => (intro u hu; clear sO cQ; go_simp; try rfl)
      simp only [Act.put, List.setIfInBounds_toArray, List.set_cons_zero, List.set_cons_succ]
      refine take_held 7 S5 rfl (by kernel_rfl) (by kernel_rfl) (by kernel_rfl) (fun _ _ _ h => h) (by kernel_rfl) (v := .int .i64 0) ?ya5 ?ra5
      case ya5 => (intro u hu; clear sO cQ; go_simp; try rfl)
      simp only [Act.put, List.setIfInBounds_toArray, List.set_cons_zero, List.set_cons_succ]
      refine take_held 8 S5 rfl (by kernel_rfl) (by kernel_rfl) (by kernel_rfl) (fun _ _ _ h => h) (by kernel_rfl) (v := .bool false) ?ya6 ?ra6
      case ya6 => (intro u hu; clear sO cQ; go_simp; try rfl)
      simp only [Act.put, List.setIfInBounds_toArray, List.set_cons_zero, List.set_cons_succ]
      refine take_held 9 S5 rfl (by kernel_rfl) (by kernel_rfl) (by kernel_rfl) (fun _ _ _ h => h) (by kernel_rfl) (v := .bool false) ?ya7 ?ra7
      case ya7 => (intro u hu; clear sO cQ; go_simp; try rfl)
      simp only [Act.put, List.setIfInBounds_toArray, List.set_cons_zero, List.set_cons_succ]
      refine take_held 10 S5 rfl (by kernel_rfl) (by kernel_rfl) (by kernel_rfl) (fun _ _ _ h => h) (by kernel_rfl) (v := .bool false) ?ya8 ?ra8
      case ya8 => (intro u hu; clear sO cQ; go_simp; try rfl)
      simp only [Act.put, List.setIfInBounds_toArray, List.set_cons_zero, List.set_cons_succ]
      refine take_held 11 S5 rfl (by kernel_rfl) (by kernel_rfl) (by kernel_rfl) (fun _ _ _ h => h) (by kernel_rfl) (v := .agg csY) ?ya9 ?ra9
      case ya9 => (intro u hu; exact run_load_op3 57 (.tmp 6) rfl NY csY rfl (run_loadVar_row _ _ _ _ csY (0, 0) _ ((hu.block _ (lt_of_heap hY4)).trans hY4) Try.underlying57 rfl hiY))
      simp only [Act.put, List.setIfInBounds_toArray, List.set_cons_zero, List.set_cons_succ]
      refine take_held 12 S5 rfl (by kernel_rfl) (by kernel_rfl) (by kernel_rfl) (fun _ _ _ h => h) (by kernel_rfl) (v := .agg csO) ?ya10 ?ra10
      case ya10 => (intro u hu; exact run_load_op3 57 (.tmp 2) rfl w.heap.size csO rfl (run_loadVar_row _ _ _ _ csO (0, 0) _ ((hu.block _ (lt_of_heap hO4)).trans hO4) Try.underlying57 rfl hi))
      simp only [Act.put, List.setIfInBounds_toArray, List.set_cons_zero, List.set_cons_succ]
      refine call_held 13 rfl (by kernel_rfl) (by kernel_rfl) 22 #[.agg csY, .agg csO] (by clear sO cQ; go_simp) _ (sO _ csY csO (EY4.later S5) (O4.later S5)) ?_
      rintro e6 x6 ⟨rfl, l6⟩
      have S6 : Below w4.heap.size w4 x6 := bcat S5 l6 (Nat.le_refl _)
      refine Or.inl ⟨_, rfl, S6, ?_⟩
      simp only [Act.put, List.setIfInBounds_toArray, List.set_cons_zero, List.set_cons_succ]
      refine take_held 14 S6 rfl (by kernel_rfl) (by kernel_rfl) (by kernel_rfl) (fun _ _ _ h => h) (by kernel_rfl) (v := .bool false) ?ya11 ?ra11
      case ya11 => (intro u hu; clear sO cQ; go_simp; try rfl)
      simp only [Act.put, List.setIfInBounds_toArray, List.set_cons_zero, List.set_cons_succ]
      refine take_held 15 S6 rfl (by kernel_rfl) (by kernel_rfl) (by kernel_rfl) (fun _ _ _ h => h) (by kernel_rfl) (v := .bool false) ?ya12 ?ra12
      case ya12 => (intro u hu; clear sO cQ; go_simp; try rfl)
      simp only [Act.put, List.setIfInBounds_toArray, List.set_cons_zero, List.set_cons_succ]
      refine take_held 16 S6 rfl (by kernel_rfl) (by kernel_rfl) (by kernel_rfl) (fun _ _ _ h => h) (by kernel_rfl) (v := .bool false) ?ya13 ?ra13
      case ya13 => (intro u hu; clear sO cQ; go_simp; try rfl)
      simp only [Act.put, List.setIfInBounds_toArray, List.set_cons_zero, List.set_cons_succ]
      refine take_held 17 S6 rfl (by kernel_rfl) (by kernel_rfl) (by kernel_rfl) (fun _ _ _ h => h) (by kernel_rfl) (v := .int .i64 0) ?ya14 ?ra14
      case ya14 => (intro u hu; clear sO cQ; go_simp; try rfl)
      simp only [Act.put, List.setIfInBounds_toArray, List.set_cons_zero, List.set_cons_succ]
      refine take_held 18 S6 rfl (by kernel_rfl) (by kernel_rfl) (by kernel_rfl) (fun _ _ _ h => h) (by kernel_rfl) (v := .bool true) ?ya15 ?ra15
      case ya15 => (intro u hu; clear sO cQ; go_simp; try rfl)
      simp only [Act.put, List.setIfInBounds_toArray, List.set_cons_zero, List.set_cons_succ]
      refine take_held 19 S6 rfl (by kernel_rfl) (by kernel_rfl) (by kernel_rfl) (fun _ _ _ h => h) (by kernel_rfl) (v := .bool true) ?ya16 ?ra16
      case ya16 => (intro u hu; clear sO cQ; go_simp; try rfl)
      simp only [Act.put, List.setIfInBounds_toArray, List.set_cons_zero, List.set_cons_succ]
      refine take_held 20 S6 rfl (by kernel_rfl) (by kernel_rfl) (by kernel_rfl) (fun _ _ _ h => h) (by kernel_rfl) (v := .bool false) ?ya17 ?ra17
      case ya17 => (intro u hu; clear sO cQ; go_simp; try rfl)
      simp only [Act.put, List.setIfInBounds_toArray, List.set_cons_zero, List.set_cons_succ]
      refine take_held 21 S6 rfl (by kernel_rfl) (by kernel_rfl) (by kernel_rfl) (fun _ _ _ h => h) (by kernel_rfl) (v := .bool false) ?ya18 ?ra18
      case ya18 => (intro u hu; clear sO cQ; go_simp; try rfl)
      simp only [Act.put, List.setIfInBounds_toArray, List.set_cons_zero, List.set_cons_succ]
      refine take_held 22 S6 rfl (by kernel_rfl) (by kernel_rfl) (by kernel_rfl) (fun _ _ _ h => h) (by kernel_rfl) (v := .bool false) ?ya19 ?ra19
      case ya19 => (intro u hu; clear sO cQ; go_simp; try rfl)
      simp only [Act.put, List.setIfInBounds_toArray, List.set_cons_zero, List.set_cons_succ]
      refine take_held 23 S6 rfl (by kernel_rfl) (by kernel_rfl) (by kernel_rfl) (fun _ _ _ h => h) (by kernel_rfl) (v := .bool true) ?ya20 ?ra20
      case ya20 => (intro u hu; clear sO cQ; go_simp; try rfl)
      simp only [Act.put, List.setIfInBounds_toArray, List.set_cons_zero, List.set_cons_succ]
      refine take_held 24 S6 rfl (by kernel_rfl) (by kernel_rfl) (by kernel_rfl) (fun _ _ _ h => h) (by kernel_rfl) (v := .bool false) ?ya21 ?ra21
      case ya21 => (intro u hu; clear sO cQ; go_simp; try rfl)
      simp only [Act.put, List.setIfInBounds_toArray, List.set_cons_zero, List.set_cons_succ]
      refine take_held 25 S6 rfl (by kernel_rfl) (by kernel_rfl) (by kernel_rfl) (fun _ _ _ h => h) (by kernel_rfl) (v := .bool false) ?ya22 ?ra22
      case ya22 => (intro u hu; clear sO cQ; go_simp; try rfl)
      simp only [Act.put, List.setIfInBounds_toArray, List.set_cons_zero, List.set_cons_succ]
      refine skip_held 26 S6 rfl (by kernel_rfl) (by kernel_rfl) (by kernel_rfl) (fun _ _ _ h => h) (by kernel_rfl) ?_
      simp only [Act.put, List.setIfInBounds_toArray, List.set_cons_zero, List.set_cons_succ]
      refine skip_held 27 S6 rfl (by kernel_rfl) (by kernel_rfl) (by kernel_rfl) (fun _ _ _ h => h) (by kernel_rfl) ?_
      simp only [Act.put, List.setIfInBounds_toArray, List.set_cons_zero, List.set_cons_succ]
      refine take_held 28 S6 rfl (by kernel_rfl) (by kernel_rfl) (by kernel_rfl) (fun _ _ _ h => h) (by kernel_rfl) (v := .bool false) ?ya23 ?ra23
      case ya23 => (intro u hu; clear sO cQ; go_simp; try rfl)
      simp only [Act.put, List.setIfInBounds_toArray, List.set_cons_zero, List.set_cons_succ]
      refine take_held 29 S6 rfl (by kernel_rfl) (by kernel_rfl) (by kernel_rfl) (fun _ _ _ h => h) (by kernel_rfl) (v := .bool false) ?ya24 ?ra24
      case ya24 => (intro u hu; clear sO cQ; go_simp; try rfl)
      simp only [Act.put, List.setIfInBounds_toArray, List.set_cons_zero, List.set_cons_succ]
      refine done_held (by kernel_rfl) ?_ _
      go_wp2_with fail
      go_meet
      exact ⟨rfl, S6⟩
    · refine start_held (S := fun u => Below w4.heap.size w4 u) 30 rfl (by kernel_rfl) S0 ?_
      simp only [Array.replicate_succ, Array.replicate_zero, List.push_toArray, List.nil_append, List.cons_append]
      refine take_held 0 S0 rfl (by kernel_rfl) (by kernel_rfl) (by kernel_rfl) (fun _ _ _ h => h) (by kernel_rfl) (v := .slice a1 L c1) ?yb0 ?rb0
      case yb0 => (intro u hu; clear sO cQ; go_simp; try rfl)
      simp only [Act.put, List.setIfInBounds_toArray, List.set_cons_zero, List.set_cons_succ]
      refine take_held 1 S0 rfl (by kernel_rfl) (by kernel_rfl) (by kernel_rfl) (fun _ _ _ h => h) (by kernel_rfl) (v := .string (strOfNums ZO)) ?yb1 ?rb1
      case yb1 => (intro u hu; have hq := hconv u hu; clear sO cQ; go_simp; try rfl)
      simp only [Act.put, List.setIfInBounds_toArray, List.set_cons_zero, List.set_cons_succ]
      refine take_held 2 S0 rfl (by kernel_rfl) (by kernel_rfl) (by kernel_rfl) (fun _ _ _ h => h) (by kernel_rfl) (v := .agg csO) ?yb2 ?rb2
      case yb2 => (intro u hu; exact run_load_op3 57 (.tmp 2) rfl w.heap.size csO rfl (run_loadVar_row _ _ _ _ csO (0, 0) _ ((hu.block _ (lt_of_heap hO4)).trans hO4) Try.underlying57 rfl hi))
      simp only [Act.put, List.setIfInBounds_toArray, List.set_cons_zero, List.set_cons_succ]
      refine call_held 3 rfl (by kernel_rfl) (by kernel_rfl) 21 #[.agg csO] (by go_simp) _ (cQ _ csO (O4.later S0)) ?_
      rintro e5 x5 ⟨b5, rfl, m5, l5, n5⟩
      have S5 : Below w4.heap.size w4 x5 := bcat S0 l5 (Nat.le_refl _)
      have v5 := m5.conv
      refine Or.inl ⟨_, rfl, S5, ?_⟩
      simp only [Act.put, List.setIfInBounds_toArray, List.set_cons_zero, List.set_cons_succ]
      refine read_held 4 rfl (by kernel_rfl) (by kernel_rfl) (.string (strOfNums ZO)) (by clear sO cQ; go_simp) S5 ?_
      simp only [Act.put, List.setIfInBounds_toArray, List.set_cons_zero, List.set_cons_succ]
      refine take_held 5 S5 rfl (by kernel_rfl) (by kernel_rfl) (by kernel_rfl) (fun _ _ _ h => h) (by kernel_rfl) (v := .bool false) ?yb3 ?rb3
      case yb3 => (intro u hu; clear sO cQ; go_simp; try rfl)
      simp only [Act.put, List.setIfInBounds_toArray, List.set_cons_zero, List.set_cons_succ]
      refine take_held 6 S5 rfl (by kernel_rfl) (by kernel_rfl) (by kernel_rfl) (fun _ _ _ h => h) (by kernel_rfl) (v := .bool false) ?yb4 ?rb4
      case yb4 => (intro u hu; clear sO cQ; go_simp; try rfl)
      simp only [Act.put, List.setIfInBounds_toArray, List.set_cons_zero, List.set_cons_succ]
      refine take_held 7 S5 rfl (by kernel_rfl) (by kernel_rfl) (by kernel_rfl) (fun _ _ _ h => h) (by kernel_rfl) (v := .int .i64 0) ?yb5 ?rb5
      case yb5 => (intro u hu; clear sO cQ; go_simp; try rfl)
      simp only [Act.put, List.setIfInBounds_toArray, List.set_cons_zero, List.set_cons_succ]
      refine take_held 8 S5 rfl (by kernel_rfl) (by kernel_rfl) (by kernel_rfl) (fun _ _ _ h => h) (by kernel_rfl) (v := .bool false) ?yb6 ?rb6
      case yb6 => (intro u hu; clear sO cQ; go_simp; try rfl)
      simp only [Act.put, List.setIfInBounds_toArray, List.set_cons_zero, List.set_cons_succ]
      refine take_held 9 S5 rfl (by kernel_rfl) (by kernel_rfl) (by kernel_rfl) (fun _ _ _ h => h) (by kernel_rfl) (v := .bool false) ?yb7 ?rb7
      case yb7 => (intro u hu; clear sO cQ; go_simp; try rfl)
      simp only [Act.put, List.setIfInBounds_toArray, List.set_cons_zero, List.set_cons_succ]
      refine take_held 10 S5 rfl (by kernel_rfl) (by kernel_rfl) (by kernel_rfl) (fun _ _ _ h => h) (by kernel_rfl) (v := .bool false) ?yb8 ?rb8
      case yb8 => (intro u hu; clear sO cQ; go_simp; try rfl)
      simp only [Act.put, List.setIfInBounds_toArray, List.set_cons_zero, List.set_cons_succ]
      refine take_held 11 S5 rfl (by kernel_rfl) (by kernel_rfl) (by kernel_rfl) (fun _ _ _ h => h) (by kernel_rfl) (v := .agg csY) ?yb9 ?rb9
      case yb9 => (intro u hu; exact run_load_op3 57 (.tmp 6) rfl NY csY rfl (run_loadVar_row _ _ _ _ csY (0, 0) _ ((hu.block _ (lt_of_heap hY4)).trans hY4) Try.underlying57 rfl hiY))
      simp only [Act.put, List.setIfInBounds_toArray, List.set_cons_zero, List.set_cons_succ]
      refine take_held 12 S5 rfl (by kernel_rfl) (by kernel_rfl) (by kernel_rfl) (fun _ _ _ h => h) (by kernel_rfl) (v := .agg csO) ?yb10 ?rb10
      case yb10 => (intro u hu; exact run_load_op3 57 (.tmp 2) rfl w.heap.size csO rfl (run_loadVar_row _ _ _ _ csO (0, 0) _ ((hu.block _ (lt_of_heap hO4)).trans hO4) Try.underlying57 rfl hi))
      simp only [Act.put, List.setIfInBounds_toArray, List.set_cons_zero, List.set_cons_succ]
      refine call_held 13 rfl (by kernel_rfl) (by kernel_rfl) 22 #[.agg csY, .agg csO] (by clear sO cQ; go_simp) _ (sO _ csY csO (EY4.later S5) (O4.later S5)) ?_
      rintro e6 x6 ⟨rfl, l6⟩
      have S6 : Below w4.heap.size w4 x6 := bcat S5 l6 (Nat.le_refl _)
      refine Or.inl ⟨_, rfl, S6, ?_⟩
      simp only [Act.put, List.setIfInBounds_toArray, List.set_cons_zero, List.set_cons_succ]
      refine take_held 14 S6 rfl (by kernel_rfl) (by kernel_rfl) (by kernel_rfl) (fun _ _ _ h => h) (by kernel_rfl) (v := .bool false) ?yb11 ?rb11
      case yb11 => (intro u hu; clear sO cQ; go_simp; try rfl)
      simp only [Act.put, List.setIfInBounds_toArray, List.set_cons_zero, List.set_cons_succ]
      refine take_held 15 S6 rfl (by kernel_rfl) (by kernel_rfl) (by kernel_rfl) (fun _ _ _ h => h) (by kernel_rfl) (v := .bool false) ?yb12 ?rb12
      case yb12 => (intro u hu; clear sO cQ; go_simp; try rfl)
      simp only [Act.put, List.setIfInBounds_toArray, List.set_cons_zero, List.set_cons_succ]
      refine take_held 16 S6 rfl (by kernel_rfl) (by kernel_rfl) (by kernel_rfl) (fun _ _ _ h => h) (by kernel_rfl) (v := .bool false) ?yb13 ?rb13
      case yb13 => (intro u hu; clear sO cQ; go_simp; try rfl)
      simp only [Act.put, List.setIfInBounds_toArray, List.set_cons_zero, List.set_cons_succ]
      refine take_held 17 S6 rfl (by kernel_rfl) (by kernel_rfl) (by kernel_rfl) (fun _ _ _ h => h) (by kernel_rfl) (v := .int .i64 4) ?yb14 ?rb14
      case yb14 => (intro u hu; clear sO cQ; go_simp; try rfl)
      simp only [Act.put, List.setIfInBounds_toArray, List.set_cons_zero, List.set_cons_succ]
      refine take_held 18 S6 rfl (by kernel_rfl) (by kernel_rfl) (by kernel_rfl) (fun _ _ _ h => h) (by kernel_rfl) (v := .bool false) ?yb15 ?rb15
      case yb15 => (intro u hu; clear sO cQ; go_simp; try rfl)
      simp only [Act.put, List.setIfInBounds_toArray, List.set_cons_zero, List.set_cons_succ]
      refine take_held 19 S6 rfl (by kernel_rfl) (by kernel_rfl) (by kernel_rfl) (fun _ _ _ h => h) (by kernel_rfl) (v := .bool false) ?yb16 ?rb16
      case yb16 => (intro u hu; clear sO cQ; go_simp; try rfl)
      simp only [Act.put, List.setIfInBounds_toArray, List.set_cons_zero, List.set_cons_succ]
      refine take_held 20 S6 rfl (by kernel_rfl) (by kernel_rfl) (by kernel_rfl) (fun _ _ _ h => h) (by kernel_rfl) (v := .bool false) ?yb17 ?rb17
      case yb17 => (intro u hu; clear sO cQ; go_simp; try rfl)
      simp only [Act.put, List.setIfInBounds_toArray, List.set_cons_zero, List.set_cons_succ]
      refine take_held 21 S6 rfl (by kernel_rfl) (by kernel_rfl) (by kernel_rfl) (fun _ _ _ h => h) (by kernel_rfl) (v := .bool false) ?yb18 ?rb18
      case yb18 => (intro u hu; clear sO cQ; go_simp; try rfl)
      simp only [Act.put, List.setIfInBounds_toArray, List.set_cons_zero, List.set_cons_succ]
      refine take_held 22 S6 rfl (by kernel_rfl) (by kernel_rfl) (by kernel_rfl) (fun _ _ _ h => h) (by kernel_rfl) (v := .bool false) ?yb19 ?rb19
      case yb19 => (intro u hu; clear sO cQ; go_simp; try rfl)
      simp only [Act.put, List.setIfInBounds_toArray, List.set_cons_zero, List.set_cons_succ]
      refine take_held 23 S6 rfl (by kernel_rfl) (by kernel_rfl) (by kernel_rfl) (fun _ _ _ h => h) (by kernel_rfl) (v := .bool false) ?yb20 ?rb20
      case yb20 => (intro u hu; clear sO cQ; go_simp; try rfl)
      simp only [Act.put, List.setIfInBounds_toArray, List.set_cons_zero, List.set_cons_succ]
      refine take_held 24 S6 rfl (by kernel_rfl) (by kernel_rfl) (by kernel_rfl) (fun _ _ _ h => h) (by kernel_rfl) (v := .bool true) ?yb21 ?rb21
      case yb21 => (intro u hu; clear sO cQ; go_simp; try rfl)
      simp only [Act.put, List.setIfInBounds_toArray, List.set_cons_zero, List.set_cons_succ]
      refine take_held 25 S6 rfl (by kernel_rfl) (by kernel_rfl) (by kernel_rfl) (fun _ _ _ h => h) (by kernel_rfl) (v := .bool true) ?yb22 ?rb22
      case yb22 => (intro u hu; clear sO cQ; go_simp; try rfl)
      simp only [Act.put, List.setIfInBounds_toArray, List.set_cons_zero, List.set_cons_succ]
      refine take_held 26 S6 rfl (by kernel_rfl) (by kernel_rfl) (by kernel_rfl) (fun _ _ _ h => h) (by kernel_rfl) (v := .int .i64 4) ?yb23 ?rb23
      case yb23 => (intro u hu; clear sO cQ; go_simp; try rfl)
      simp only [Act.put, List.setIfInBounds_toArray, List.set_cons_zero, List.set_cons_succ]
      refine take_held 27 S6 rfl (by kernel_rfl) (by kernel_rfl) (by kernel_rfl) (fun _ _ _ h => h) (by kernel_rfl) (v := .bool false) ?yb24 ?rb24
      case yb24 => (intro u hu; clear sO cQ; go_simp; try rfl)
      simp only [Act.put, List.setIfInBounds_toArray, List.set_cons_zero, List.set_cons_succ]
      refine take_held 28 S6 rfl (by kernel_rfl) (by kernel_rfl) (by kernel_rfl) (fun _ _ _ h => h) (by kernel_rfl) (v := .bool false) ?yb25 ?rb25
      case yb25 => (intro u hu; clear sO cQ; go_simp; try rfl)
      simp only [Act.put, List.setIfInBounds_toArray, List.set_cons_zero, List.set_cons_succ]
      refine take_held 29 S6 rfl (by kernel_rfl) (by kernel_rfl) (by kernel_rfl) (fun _ _ _ h => h) (by kernel_rfl) (v := .bool false) ?yb26 ?rb26
      case yb26 => (intro u hu; clear sO cQ; go_simp; try rfl)
      simp only [Act.put, List.setIfInBounds_toArray, List.set_cons_zero, List.set_cons_succ]
      refine done_held (by kernel_rfl) ?_ _
      go_wp2_with fail
      go_meet
      exact ⟨rfl, S6⟩
  case rest =>
  obtain ⟨rfl, D⟩ := hcut
  have hZ5 := (D.block _ (lt_of_heap hZ4)).trans hZ4
  have hW5 := (D.block _ (lt_of_heap hW)).trans hW
  have cS := sZ _ csZ csW (EZ4.later D) (EW.later D)
  go_wp2_with (first
    | (refine wpList_load_row rfl 57 (.tmp 8) rfl NZ rfl 57 csZ (0, 0) _ hZ5 Try.underlying57 rfl hiZ ?_)
    | (refine wpList_load_row rfl 57 (.tmp 10) rfl NW rfl 57 csW (0, 0) _ hW5 Try.underlying57 rfl hiW ?_)
    | (go_at_call 22; refine cS.mono ?_; rintro e7 x7 ⟨rfl, b7⟩)
    | (go_at_call 13; refine (cW _).mono ?_; rintro e8 x8 ⟨rfl, b8⟩))
  go_ret
  exact ⟨rfl, bcat B4w (bcat D (bcat b7 b8 (Nat.le_refl _)) (Nat.le_refl _)) (Nat.le_refl _)⟩
end Go.Proofs.Ythdgpadakmdlkaa.Codec
