/-
  Open: what it tells of a file, what it cuts off.
-/
import Derived.Test.YtnehkjabhmhijaaWalState
import Derived.Maps.AppendAt
namespace Go.Proofs.Ytnehkjabhmhijaa.Wal
set_option linter.unusedVariables false
set_option linter.unusedSimpArgs false
open Go Go.RowKit Go.Shelf Go.Proofs
open Go.Proofs.Ytnehkjabhmhijaa.Disk (Row getD_in ret_int add_add DiskIs Kept St now setSt owns_row owns_same)

attribute [local go_sem] Oper.semAt_some

def bytesAt (zs : List Int) (r : Rec zs) : List Int := (zs.drop (r.1.1 + 8)).take r.1.2
def endOf {zs : List Int} (pre : List (Rec zs)) : Nat := match pre.getLast? with
  | Option.some r => r.1.1 + 8 + r.1.2
  | none => 0
theorem endOf_snoc {zs : List Int} (pre : List (Rec zs)) (r : Rec zs) : endOf (pre ++ [r]) = r.1.1 + 8 + r.1.2 := by simp [endOf]
theorem bytesAt_length (zs : List Int) (r : Rec zs) : (bytesAt zs r).length = r.1.2 := by
  have := r.2
  simp only [bytesAt, List.length_take, List.length_drop]
  omega
theorem says_places (zs : List Int) (ns : List Nat) : ∀ a, says zs a ns = (places a ns).map fun r => (zs.drop (r.1 + 8)).take r.2 := by
  induction ns with
  | nil => intro a; rfl
  | cons n ns ih => intro a; simp only [says, places, List.map_cons, ih]
theorem told_says {zs : List Int} {ns : List Nat} {ys : List (Rec zs)} (h : ys.map Subtype.val = places 0 ns) : ys.map (bytesAt zs) = says zs 0 ns := by
  rw [says_places, ← h, List.map_map]
  rfl
theorem end_stop {zs : List Int} {ns : List Nat} {ys : List (Rec zs)} (h : ys.map Subtype.val = places 0 ns) : endOf ys = stop 0 ns := by
  rcases List.eq_nil_or_concat ns with rfl | ⟨ms, k, rfl⟩
  · obtain rfl : ys = [] := by simpa [places] using h
    rfl
  · rw [List.concat_eq_append, places_append] at h
    have h2 := congrArg List.getLast? h
    simp only [places, List.getLast?_append, List.getLast?_map, List.getLast?_singleton, Option.or_some, Option.some_or] at h2
    rw [List.concat_eq_append, stop_snoc]
    cases hl : ys.getLast? with
    | none => rw [hl] at h2; cases h2
    | some r =>
      rw [hl] at h2
      have e : r.1 = (stop 0 ms, k) := by simpa using h2
      simp only [endOf, hl, e]
      omega

/- A piece of new memory. -/
structure Fresh (B : Nat) (w : World) (p : Piece) : Prop where
  own : w.ownsRow B 5 1 p.val p.zs.length (p.zs.map (Value.int .u8))
  small : ∀ z ∈ p.zs, 0 ≤ z ∧ z < 256
/- What the loop of Open has told so far. -/
structure Told (B T E Bn : Nat) (bv : Value) (V0 : World) {zs : List Int} (pre : List (Rec zs)) (V : World) : Prop where
  told : ∃ (v : Value) (ps : List Piece), Boxed V T 27 v ∧ V.ownsRow B 22 1 v ps.length (ps.map Piece.val) ∧ ps.map Piece.zs = pre.map (bytesAt zs) ∧ ∀ p ∈ ps, Fresh B V p
  fin : Boxed V E 3 (.int .i64 (endOf pre))
  box : Boxed V Bn 22 bv
  below : Below T V0 V
theorem box_kept {X Y : World} {row : Option Nat} {B : Nat} {t : TypeId} {v : Value} (hv : Boxed X B t v) (hg : X.grownBy Y row) (hrow : ∀ r, row = Option.some r → ∃ o : Obj, X.heap[r]? = Option.some o ∧ o.isCells = false) : Boxed Y B t v := by
  refine hv.kept hg (fun e' => ?_)
  obtain ⟨o, ho, hc⟩ := hrow B e'.symm
  rw [show X.heap[B]? = _ from hv] at ho; cases ho; cases hc
theorem row_kept {X Y : World} {row : Option Nat} {base : Nat} {e : TypeId} {size n : Nat} {v : Value} {xs : List Value} (hr : X.ownsRow base e size v n xs) (hg : X.grownBy Y row) (hrow : ∀ r, row = Option.some r → ∃ o : Obj, X.heap[r]? = Option.some o ∧ o.isCells = false) : Y.ownsRow base e size v n xs := by
  refine hr.kept hg ?_
  rcases hr.2 with ⟨rfl, _⟩ | ⟨g, cap, cur, rfl, _, hgb, _⟩
  · exact .inl rfl
  · refine .inr fun e' => ?_
    obtain ⟨o, ho, hc⟩ := hrow g (by simpa [Value.ownBlock] using e'.symm)
    rw [hgb] at ho; cases ho; cases hc
theorem told_own {B T E Bn N : Nat} {bv : Value} {V0 : World} {zs : List Int} (hT : T ≤ V0.heap.size) (hN : T ≤ N) : OwnFrom N (fun (pre : List (Rec zs)) V => Told B T E Bn bv V0 pre V) := by
  intro pre X Y row h hg hr
  have hr' := fun r e => (hr r e).2
  obtain ⟨v, ps, h1, h2, h3, h4⟩ := h.told
  exact ⟨⟨v, ps, box_kept h1 hg hr', row_kept h2 hg hr', h3, fun p hp => ⟨row_kept (h4 p hp).own hg hr', (h4 p hp).small⟩⟩, box_kept h.fin hg hr', box_kept h.box hg hr',
    h.below.grown hg (Nat.le_trans hT h.below.size) (fun k e => Nat.le_trans hN (hr k e).1)⟩

theorem bytesRow {w : World} {a : Option Addr} {n : Nat} {zs : List Int} {x : Addr} (hx : ∀ y, a = Option.some y → y = x) (hr : Row w a n zs) (r : Rec zs) : Row w (Option.some (x.add (r.1.1 + 8))) r.1.2 (bytesAt zs r) := by
  have h2 := r.2
  have hl := hr.len
  obtain ⟨y, rfl, _⟩ := hr.cell 0 (by omega)
  obtain rfl := hx y rfl
  exact hr.part (r.1.1 + 8) r.1.2 (by omega)
theorem readSmall {W w : World} {own : Owns} {D : Nat} {σ : St} {m : Nat} (h : Live W w own D σ m) (f : Int) : ∀ z ∈ Disk.readOf σ f, 0 ≤ z ∧ z < 256 := by
  unfold Disk.readOf
  by_cases hf : f = 0 ∨ f = 1
  · rw [Disk.isFile_yes hf, if_pos rfl]
    exact Disk.now_small h.disk _ (by omega)
  · rw [Disk.isFile_no hf]
    intro z hz
    cases hz

theorem infoT : (Try.prog.info? 22).map (fun i => (i.zero, i.size, i.bytes)) = Option.some (Option.some (.slice none 0 0), 1, 24) := by kernel_rfl
theorem box_grow {X Y : World} {row : Option Nat} {C : Nat} {t : TypeId} {v : Value} (hv : Boxed X C t v) (hg : X.grownBy Y row) (hr : ∀ r, row = Option.some r → r ≠ C) : Boxed Y C t v :=
  hv.kept hg (fun e => hr C e.symm rfl)
theorem box_later {X Y : World} {C : Nat} {t : TypeId} {v : Value} (hv : Boxed X C t v) (hb : Below X.heap.size X Y) : Boxed Y C t v := (hb.block C hv.lt).trans hv
theorem owns_base {w : World} {b B : Nat} {e : TypeId} {size : Nat} {v : Value} {n : Nat} {xs : List Value} (h : w.ownsRow b e size v n xs) (hb : B ≤ b) : w.ownsRow B e size v n xs := by
  refine ⟨h.1, ?_⟩
  rcases h.2 with hn | ⟨g, cap, cur, rfl, hb', rest⟩
  · exact .inl hn
  · exact .inr ⟨g, cap, cur, rfl, Nat.le_trans hb hb', rest⟩
theorem fresh_apart {w : World} {B : Nat} {p : Piece} {v : Value} {n : Nat} {xs : List Value} (h : Fresh B w p) (hr : w.ownsRow B 22 1 v n xs) : p.val.ownBlock = none ∨ p.val.ownBlock ≠ v.ownBlock := by
  rcases h.own.2 with ⟨e, _⟩ | ⟨g, cap, cur, e, _, hg, _⟩
  · left; rw [e]; rfl
  · right
    rw [e]
    rcases hr.2 with ⟨e', _⟩ | ⟨g', cap', cur', e', _, hg', _⟩
    · rw [e']; intro hh; cases hh
    · rw [e']
      intro hh
      have : g = g' := by simpa [Value.ownBlock] using hh
      subst this
      rw [hg] at hg'
      cases hg'
set_option maxHeartbeats 2000000 in
theorem clone_told {B T E Bn : Nat} {y : Addr} {bv : Value} {V0 V : World} {zs : List Int} {pre : List (Rec zs)} (hI : Told B T E Bn bv V0 pre V) (r : Rec zs) (v : Value) (ps : List Piece)
    (hv : Boxed V T 27 v) (hrow : V.ownsRow B 22 1 v ps.length (ps.map Piece.val)) (hps : ps.map Piece.zs = pre.map (bytesAt zs)) (hfr : ∀ p ∈ ps, Fresh B V p)
    (hB : B ≤ V.heap.size) (h1 : T < B) (h2 : E < B) (h3 : Bn < B) (h4 : T < E) (h5 : T < Bn) (h6 : E ≠ Bn) (hpl : ps.length + 1 ≤ 16777216) (cy : Nat) (hrp : Row V (Option.some y) r.1.2 (bytesAt zs r)) (V' : World) (hb : Below V.heap.size V V') :
    Calls Try.prog 23 #[.slice (Option.some y) r.1.2 cy] V' fun e w5 => ∃ a5 c5 g6 c6 w6, e = .returned (.slice a5 r.1.2 c5) ∧ w5.cell? ⟨T, 0, none⟩ = Option.some v ∧
      (Builtin.append_ #[27, 27] 27 #[v, .slice (Option.some ⟨w5.heap.size, 0, none⟩) 1 1]).run Try.prog (w5.alloc (.cells #[.slice a5 r.1.2 c5] 22)) = .ok (.slice (Option.some ⟨g6, 0, none⟩) (ps.length + 1) c6) w6 ∧
      w6.cell? ⟨T, 0, none⟩ = Option.some v ∧ w6.frozen? ⟨T, 0, none⟩ = false ∧
      (w6.setCell ⟨T, 0, none⟩ (.slice (Option.some ⟨g6, 0, none⟩) (ps.length + 1) c6)).cell? ⟨E, 0, none⟩ = Option.some (.int .i64 (endOf pre)) ∧
      (w6.setCell ⟨T, 0, none⟩ (.slice (Option.some ⟨g6, 0, none⟩) (ps.length + 1) c6)).frozen? ⟨E, 0, none⟩ = false ∧
      Hid (KeepsFrom B V ((w6.setCell ⟨T, 0, none⟩ (.slice (Option.some ⟨g6, 0, none⟩) (ps.length + 1) c6)).setCell ⟨E, 0, none⟩ (.int .i64 (endOf (pre ++ [r]) : Nat))) ∧
        (∀ k, k < T → ((w6.setCell ⟨T, 0, none⟩ (.slice (Option.some ⟨g6, 0, none⟩) (ps.length + 1) c6)).setCell ⟨E, 0, none⟩ (.int .i64 (endOf (pre ++ [r]) : Nat))).heap[k]? = V.heap[k]?) ∧
        Told B T E Bn bv V0 (pre ++ [r]) ((w6.setCell ⟨T, 0, none⟩ (.slice (Option.some ⟨g6, 0, none⟩) (ps.length + 1) c6)).setCell ⟨E, 0, none⟩ (.int .i64 (endOf (pre ++ [r]) : Nat)))) := by
  obtain ⟨i0, hi, hz0, hz1, hz2⟩ := info_parts infoT
  have hkl := bytesAt_length zs r
  have hsm := hrp.small
  refine (Disk.clone_any (Option.some y) r.1.2 cy (bytesAt zs r) V' (hrp.after hb) (by have := r.2; omega) (fun h => by cases h)).mono ?_
  rintro e w5 ⟨a5, c5, rfl, o5, b5⟩
  have bV5 : Below V.heap.size V w5 := hb.trans (b5.mono hb.size)
  have row5 := owns_later hrow bV5
  obtain ⟨v6, w6, hrun, o6, g6, _⟩ := run_append_own (P := Try.prog) (w5.alloc (.cells #[.slice a5 r.1.2 c5] 22)) B 27 27 22 i0 (.slice none 0 0) 1 24 Try.underlying27 hi hz0 hz1 hz2 rfl (by decide) v ps.length (ps.map Piece.val)
    (row5.alloc _) ⟨w5.heap.size, 0, none⟩ 1 1 [.slice a5 r.1.2 c5] rfl (cell_one_new _ _ _) (by simp [Value.oneCell']) (by unfold maxLen; omega) (by omega) (by have := bV5.size; simp; omega)
  obtain ⟨g, c6, rfl⟩ := ownsRow_succ o6
  have hblk : ∀ q, v.ownBlock = Option.some q → B ≤ q := by
    intro q hq
    rcases hrow.2 with ⟨e, _⟩ | ⟨g', cap', cur', e, hb', _⟩
    · rw [e] at hq; cases hq
    · rw [e] at hq; cases hq; exact hb'
  have bel6 : ∀ k, k < V.heap.size → v.ownBlock ≠ Option.some k → w6.heap[k]? = V.heap[k]? := by
    intro k hk hne
    rw [g6.block k (by have := bV5.size; simp; omega) (fun e => hne e.symm)]
    rw [Below.heap_alloc _ _ _ (by have := bV5.size; omega)]
    exact bV5.block k hk
  have bx : ∀ {C : Nat} {t : TypeId} {u : Value}, Boxed V C t u → C < B → Boxed w6 C t u := fun {C t u} hu hC => (bel6 C hu.lt (fun e => by have := hblk C e; omega)).trans hu
  have xT := bx hv h1
  have xE := bx hI.fin h2
  have xB := bx hI.box h3
  have sz6 : V.heap.size ≤ w6.heap.size := by have := g6.size; have := bV5.size; simp at *; omega
  refine ⟨a5, c5, g, c6, w6, rfl, (box_later hv bV5).cell, hrun, xT.cell, xT.frozen, (xE.other (by omega) _).cell, (xE.other (by omega) _).frozen, ?_⟩
  have gB : B ≤ g := by
    rcases o6.2 with ⟨e, _⟩ | ⟨g', cap', cur', e, hb', _⟩
    · cases e
    · cases e; exact hb'
  have same2 : ∀ k, k ≠ T → k ≠ E → ((w6.setCell ⟨T, 0, none⟩ (.slice (Option.some ⟨g, 0, none⟩) (ps.length + 1) c6)).setCell ⟨E, 0, none⟩ (.int .i64 (endOf (pre ++ [r]) : Nat))).heap[k]? = w6.heap[k]? := by
    intro k k1 k2
    rw [Below.heap_setCell _ _ _ k k2, Below.heap_setCell _ _ _ k k1]
  have hval : Piece.val ⟨a5, c5, bytesAt zs r⟩ = .slice a5 r.1.2 c5 := by unfold Piece.val; rw [hkl]
  have hvT : ∀ k o, V.heap[k]? = Option.some o → o.isCells = false → v.ownBlock ≠ Option.some k := by
    intro k o hk ho e
    rcases hrow.2 with ⟨e', _⟩ | ⟨g', cap', cur', e', _, hg', _⟩
    · rw [e'] at e; cases e
    · rw [e'] at e; cases e; rw [hg'] at hk; cases hk; cases ho
  refine ⟨⟨?_, fun k o hBk hk hnc => ?_⟩, fun k hk => ?_, ⟨⟨_, ps ++ [⟨a5, c5, bytesAt zs r⟩], (xT.set _).other (by omega) _, ?_, ?_, ?_⟩, (xE.other (by omega) _).set _, (xB.other (by omega) _).other (by omega) _, ?_⟩⟩
  · refine Nat.le_trans sz6 ?_
    simp [World.setCell]
  · rw [same2 k (by omega) (by omega), bel6 k (Array.getElem?_eq_some_iff.1 hk).1 (hvT k o hk hnc)]
    exact hk
  · rw [same2 k (by omega) (by omega), bel6 k (by omega) (fun e => by have := hblk k e; omega)]
  · rw [List.length_append, List.length_singleton, List.map_append, List.map_singleton, hval]
    exact owns_same o6 (fun k hk => by cases hk; exact same2 g (by omega) (by omega))
  · rw [List.map_append, List.map_append, hps]
    rfl
  · intro p hp
    rcases List.mem_append.1 hp with hp | hp
    · have hf := hfr p hp
      refine ⟨owns_same hf.own (fun k hk => ?_), hf.small⟩
      have hkB : B ≤ k ∧ k < V.heap.size := by
        rcases hf.own.2 with ⟨e, _⟩ | ⟨g', cap', cur', e, hb', hg', _⟩
        · rw [e] at hk; cases hk
        · rw [e] at hk; cases hk; exact ⟨hb', (Array.getElem?_eq_some_iff.1 hg').1⟩
      rw [same2 k (by omega) (by omega)]
      refine bel6 k hkB.2 (fun e => ?_)
      rcases fresh_apart hf hrow with h | h
      · rw [h] at hk; cases hk
      · exact h (hk.trans e.symm)
    · obtain rfl : p = ⟨a5, c5, bytesAt zs r⟩ := by simpa using hp
      refine ⟨?_, hsm⟩
      show World.ownsRow _ B 5 1 (Piece.val ⟨a5, c5, bytesAt zs r⟩) (bytesAt zs r).length _
      rw [hval, hkl]
      have o5' := owns_base o5 (show B ≤ V'.heap.size from Nat.le_trans hB hb.size)
      refine owns_same (owns_same (o5'.alloc (.cells #[.slice a5 r.1.2 c5] 22)) (w' := w6) (fun k hk => ?_)) (fun k hk => ?_)
      · have hkV : V'.heap.size ≤ k ∧ k < w5.heap.size := by
          rcases o5.2 with ⟨e, _⟩ | ⟨g', cap', cur', e, hb', hg', _⟩
          · rw [e] at hk; cases hk
          · rw [e] at hk; cases hk; exact ⟨hb', (Array.getElem?_eq_some_iff.1 hg').1⟩
        refine g6.block k (by simp; omega) (fun e => ?_)
        have : k < V.heap.size := by
          rcases hrow.2 with ⟨e', _⟩ | ⟨g', cap', cur', e', _, hg', _⟩
          · rw [e'] at e; cases e
          · rw [e'] at e; cases e; exact (Array.getElem?_eq_some_iff.1 hg').1
        have := hb.size
        omega
      · have hkV : B ≤ k := by
          rcases o5'.2 with ⟨e, _⟩ | ⟨g', cap', cur', e, hb', hg', _⟩
          · rw [e] at hk; cases hk
          · rw [e] at hk; cases hk; exact hb'
        exact same2 k (by omega) (by omega)
  · have z5 := bV5.size
    have bT5 : Below T V w5 := bV5.mono (show T ≤ V.heap.size by omega)
    have bT6 : Below T V w6 := (bT5.alloc (show T ≤ w5.heap.size by omega) (.cells #[.slice a5 r.1.2 c5] 22)).grown g6 (by simp; omega) (fun k e => by have := hblk k e; omega)
    exact hI.below.trans ((bT6.setCell (p := ⟨T, 0, none⟩) (Nat.le_refl _) _).setCell (p := ⟨E, 0, none⟩) (show T ≤ E by omega) _)

theorem owns_slice {w : World} {B : Nat} {e : TypeId} {size n : Nat} {v : Value} {xs : List Value} (h : w.ownsRow B e size v n xs) : ∃ a c, v = .slice a n c := by
  rcases h.2 with ⟨e, h0⟩ | ⟨g, cap, cur, e, _⟩
  · exact ⟨_, _, by rw [e, h0]⟩
  · exact ⟨_, _, e⟩
theorem cell_more {w : World} {p : Addr} {v : Value} (o : Obj) (h : w.cell? p = Option.some v) : (w.alloc o).cell? p = Option.some v := (cell_block (Below.heap_alloc _ _ _ (World.block_lt_of_cell? w _ h))).trans h
theorem fresh_in {w : World} {B : Nat} {p : Piece} (h : Fresh B w p) (hl : p.zs.length ≤ 140737488355328) : PieceIn w p := by
  obtain ⟨h1, h2, h3⟩ := owns_row h.own h.small
  refine ⟨h1, fun e => ?_, h3, ?_⟩
  · exact (Disk.owns_form h.own).1 e
  · rcases h.own.2 with ⟨e, h0⟩ | ⟨g, cap', cur, e, hb0, hg0, hc0, hm0, _⟩
    · have := congrArg (fun v => match v with | Value.slice _ _ c => c | _ => 0) e
      simp only [Piece.val] at this
      omega
    · have := congrArg (fun v => match v with | Value.slice _ _ c => c | _ => 0) e
      simp only [Piece.val] at this
      unfold maxLen at hm0
      omega
theorem texts_of {w : World} {B n tcap : Nat} {ta : Option Addr} {ps : List Piece} (hrow : w.ownsRow B 22 1 (.slice ta n tcap) n (ps.map Piece.val)) (hfr : ∀ p ∈ ps, Fresh B w p) (hl : ∀ p ∈ ps, p.zs.length ≤ 140737488355328) : Texts w ta n ps := by
  have hlen : ps.length = n := by have := hrow.1; simpa using this
  refine ⟨hlen, fun i hi => ?_, fun p hp => fresh_in (hfr p hp) (hl p hp)⟩
  rcases hrow.2 with ⟨e, h0⟩ | ⟨g, cap', cur, e, _⟩
  · omega
  · cases e
    refine ⟨_, rfl, ?_⟩
    have hc := hrow.cellAt i (by omega)
    rw [Addr.add_lit, Nat.zero_add, hc, List.getElem?_map, List.getElem?_eq_getElem hi]
    rfl
theorem fresh_block {w : World} {B : Nat} {p : Piece} (h : Fresh B w p) : ∀ x, p.a = Option.some x → B ≤ x.block ∧ x.block < w.heap.size ∧ ∃ o : Obj, w.heap[x.block]? = Option.some o ∧ o.isCells = true := by
  intro x hx
  rcases h.own.2 with ⟨e, h0⟩ | ⟨g, cap', cur, e, hb0, hg0, _⟩
  · have := congrArg (fun v => match v with | Value.slice a _ _ => a | _ => none) e
    simp only [Piece.val] at this
    rw [hx] at this
    cases this
  · have := congrArg (fun v => match v with | Value.slice a _ _ => a | _ => none) e
    simp only [Piece.val] at this
    rw [hx] at this
    cases this
    exact ⟨hb0, (Array.getElem?_eq_some_iff.1 hg0).1, _, hg0, rfl⟩
theorem row_block {w : World} {B : Nat} {e : TypeId} {size n cap : Nat} {a : Option Addr} {xs : List Value} (h : w.ownsRow B e size (.slice a n cap) n xs) : ∀ x, a = Option.some x → B ≤ x.block ∧ x.block < w.heap.size ∧ ∃ o : Obj, w.heap[x.block]? = Option.some o ∧ o.isCells = true := by
  intro x hx
  rcases h.2 with ⟨e, h0⟩ | ⟨g, cap', cur, e, hb0, hg0, _⟩
  · cases e; cases hx
  · cases e; cases hx
    exact ⟨hb0, (Array.getElem?_eq_some_iff.1 hg0).1, _, hg0, rfl⟩

/- The end of Open: the log's two cells are made, the loop's book-keeping is put away. -/
theorem open_fin {W w V wX : World} {own own1 ownX : Owns} {D D' B m tcap : Nat} {i : Int} {σ : St} {ta : Option Addr} {ps : List Piece} (hWw : W.heap.size ≤ w.heap.size) (hf : Fr own own1 w V) (hfX : Fr own1 ownX V wX) (hX : Live W wX ownX D σ m)
    (hK : V.heap[D']? = Option.some (.deferred (Option.some []))) (hB : w.heap.size ≤ D') (frees : ∀ k, w.heap.size ≤ k → B ≤ k ∨ k = D' → k < V.heap.size → Free own1 V k) (hwB : w.heap.size ≤ B)
    (hrow : V.ownsRow B 22 1 (.slice ta ps.length tcap) ps.length (ps.map Piece.val)) (hfr : ∀ p ∈ ps, Fresh B V p) (hl : ∀ p ∈ ps, p.zs.length ≤ 140737488355328) :
    (wX.alloc (.cells #[.pointer (Option.some ⟨D, 0, none⟩), .int .i64 i] 61)).drew.heap[D']? = Option.some (.deferred (Option.some [])) ∧
    Live W ((wX.alloc (.cells #[.pointer (Option.some ⟨D, 0, none⟩), .int .i64 i] 61)).drew.putObj D' (.deferred none)) ownX D σ m ∧
    Fr own ownX w ((wX.alloc (.cells #[.pointer (Option.some ⟨D, 0, none⟩), .int .i64 i] 61)).drew.putObj D' (.deferred none)) ∧
    LogIs ownX ((wX.alloc (.cells #[.pointer (Option.some ⟨D, 0, none⟩), .int .i64 i] 61)).drew.putObj D' (.deferred none)) wX.heap.size D i ∧
    FreeTexts ownX ((wX.alloc (.cells #[.pointer (Option.some ⟨D, 0, none⟩), .int .i64 i] 61)).drew.putObj D' (.deferred none)) ta ps.length ps := by
  have fK : Free own1 V D' := frees D' hB (.inr rfl) (Array.getElem?_eq_some_iff.1 hK).1
  have kX := fK.go hfX
  obtain ⟨A, hA⟩ : ∃ A, wX.alloc (.cells #[.pointer (Option.some ⟨D, 0, none⟩), .int .i64 i] 61) = A := ⟨_, rfl⟩
  have bA : Below wX.heap.size wX A := by rw [← hA]; exact (Below.refl _ _).alloc (Nat.le_refl _) _
  have sA : A.heap.size = wX.heap.size + 1 := by rw [← hA]; simp
  have lA : A.heap[wX.heap.size]? = Option.some (.cells #[.pointer (Option.some ⟨D, 0, none⟩), .int .i64 i] 61) := by rw [← hA]; exact World.alloc_heap_new _ _
  rw [hA]
  have hg := grownBy_putObj' A.drew D' (.deferred none)
  obtain ⟨Y, hY⟩ : ∃ Y, A.drew.putObj D' (.deferred none) = Y := ⟨_, rfl⟩
  rw [hY] at hg ⊢
  clear hY hA
  have hAd : A.drew.heap = A.heap := rfl
  have same : ∀ k, k < A.heap.size → k ≠ D' → Y.heap[k]? = A.heap[k]? := fun k hk hne => hg.block k hk (fun e => hne (Option.some.inj e))
  have sY : A.heap.size ≤ Y.heap.size := hg.size
  have sameX : ∀ k, k < wX.heap.size → k ≠ D' → Y.heap[k]? = wX.heap[k]? := fun k hk hne => (same k (by omega) hne).trans (bA.block k hk)
  have hos : Y.os = wX.os := hg.os.trans bA.os
  have htape : Y.tape = wX.tape := hg.tape.trans bA.tape
  have hout : Y.output = wX.output := hg.output.trans bA.output
  have hDX : D' < wX.heap.size := kX.1.1
  have frX : Fr ownX ownX wX Y ∨ True := .inr trivial
  have hwX := (hf.trans hfX).kept.size
  refine ⟨?_, ⟨?_, hX.base, ?_⟩, ⟨(hf.trans hfX).up, ⟨hos.trans (hf.trans hfX).kept.os, htape.trans (hf.trans hfX).kept.tape, hout.trans (hf.trans hfX).kept.output, by omega, fun k hk hn => ?_⟩⟩, ⟨⟨by omega, ?_⟩, ?_, ?_⟩, ?_⟩
  · rw [hAd, bA.block D' hDX, kX.2]
    exact hK
  · obtain ⟨F, hF, hs⟩ := hX.disk
    refine ⟨F, hF.same (fun k hk => sameX k (hF.old k hk) (fun e => ?_)) (by omega), hs⟩
    rw [e] at hk
    exact hk kX.1.2
  · refine hX.below.trans ⟨hos, htape, hout, by omega, fun k hk => sameX k ?_ (by omega)⟩
    have := hX.below.size
    omega
  · rw [sameX k (by omega) (by omega)]
    exact (hf.trans hfX).kept.block k hk hn
  · by_cases hn : ownX wX.heap.size = none
    · exact hn
    · have := hX.disk.old _ hn
      omega
  · rw [cell_block (w := A) (p := ⟨wX.heap.size, 0, none⟩) (same _ (by show wX.heap.size < _; omega) (by show wX.heap.size ≠ _; omega))]
    simp [World.cell?, lA]
  · rw [cell_block (w := A) (p := ⟨wX.heap.size, 1, none⟩) (same _ (by show wX.heap.size < _; omega) (by show wX.heap.size ≠ _; omega))]
    simp [World.cell?, lA]
  · have hcell : ∀ k, B ≤ k → k < V.heap.size → (∃ o : Obj, V.heap[k]? = Option.some o ∧ o.isCells = true) → Free ownX Y k ∧ Y.heap[k]? = V.heap[k]? := by
      intro k hBk hlt hc
      have f1 := (frees k (by omega) (.inl hBk) hlt).go hfX
      refine ⟨⟨by have := f1.1.1; omega, f1.1.2⟩, (sameX k f1.1.1 (fun e => ?_)).trans f1.2⟩
      obtain ⟨o, ho, hoc⟩ := hc
      rw [e, hK] at ho
      cases ho
      cases hoc
    have ht := texts_of hrow hfr hl
    refine ⟨ht.keep (fun x hx _ => ?_) (fun p hp x hx _ => ?_), fun x hx _ => ?_, fun p hp x hx _ => ?_⟩
    · obtain ⟨q1, q2, q3⟩ := row_block hrow x hx
      exact (hcell _ q1 q2 q3).2
    · obtain ⟨q1, q2, q3⟩ := fresh_block (hfr p hp) x hx
      exact (hcell _ q1 q2 q3).2
    · obtain ⟨q1, q2, q3⟩ := row_block hrow x hx
      exact (hcell _ q1 q2 q3).1
    · obtain ⟨q1, q2, q3⟩ := fresh_block (hfr p hp) x hx
      exact (hcell _ q1 q2 q3).1

def openSt (σ : St) (i e0 : Nat) : St := if e0 < (now σ i).length then setSt σ i ((now σ i).take e0, []) else σ

theorem setSt_two (σ : St) (i : Nat) (p q : List Int × List Disk.U) : setSt (setSt σ i p) i q = setSt σ i q := by
  funext j
  unfold setSt
  split <;> rfl
theorem setSt_at (σ : St) (i : Nat) (p : List Int × List Disk.U) : setSt σ i p i = p := if_pos rfl
theorem openSt_cut (σ : St) (i e0 : Nat) (hi : i < 2) (h : e0 < (now σ i).length) : Disk.syncSt (Disk.cutSt σ i e0) i = openSt σ i e0 := by
  have hf : Disk.isFile (i : Int) = true := Disk.isFile_yes (by omega)
  have hc : Disk.cutErr σ i e0 = 0 := by
    unfold Disk.cutErr
    rw [if_pos ⟨hf, by omega, by rw [Int.toNat_natCast]; omega⟩]
  unfold Disk.syncSt Disk.cutSt openSt
  rw [if_pos hf, if_pos hc, if_pos h, Int.toNat_natCast, Int.toNat_natCast, setSt_two]
  congr 2
  unfold now
  rw [setSt_at, Disk.run_append]
  rfl
theorem stIn_append {l n : Nat} {P : Program} {ops : Array Oper} {o : Oper} {a : Act} {w w' : World} {K : Act → World → Prop} {Q : Exit → Act → World → Prop} {R : Prop} {t : TypeId} {r : Value} (hg : o.guard = none) (s x : Operand)
    (hop : o.op = .call { callee := .builtin .append, args := #[s, x], argTypes := #[t, t] }) (v u : Value) (hs : a.eval s = v) (hx : a.eval x = u) (hrun : (Builtin.append_ #[t, t] o.type #[v, u]).run P w = .ok r w') (h : K (a.put o.dst r) w') :
    if Region.wanted o (yielded ops a.tmps) = true then Oper.wpIn (Fence.wide.inRound l) n P o a w K Q else R := by
  have hw : Region.wanted o (yielded ops a.tmps) = true := by simp [Region.wanted, hg]
  rw [if_pos hw]
  unfold Oper.wpIn
  refine ⟨fun _ _ => trivial, ?_⟩
  rw [Oper.semAt_plain _ _ _ (by rw [hop]; intro c hc'; cases hc')]
  simp [execOp, hop, resolve, invoke, builtin, hs, hx, hrun, Result.andThen]
  exact h

set_option maxRecDepth 100000 in
set_option maxHeartbeats 4000000 in
theorem open_in {W w : World} {own : Owns} {D : Nat} {σ : St} {m : Nat} (h : Live W w own D σ m) (hm : m + 3 < 4194304) (i : Nat) (hi : i < 2) (zs : List Int) (hz : Disk.readOf σ i = zs) (ns : List Nat) (hd : Done zs ns) :
    CallsIn Fence.wide 9 Try.prog 7 #[.pointer (Option.some ⟨D, 0, none⟩), .int .i64 i] w fun e w' => ∃ own' L ta tcap ps, e = .returned (.tuple #[.pointer (Option.some ⟨L, 0, none⟩), .slice ta ns.length tcap, .int .i64 0]) ∧
      Live W w' own' D (openSt σ i (stop 0 ns)) (m + 3) ∧ Fr own own' w w' ∧ LogIs own' w' L D i ∧ FreeTexts own' w' ta ns.length ps ∧ ps.map Piece.zs = says zs 0 ns ∧ ns.length ≤ tcap := by
  have hnow : (now σ i).length = zs.length := by rw [← hz, Disk.readOf, Disk.isFile_yes (by omega), if_pos rfl, Int.toNat_natCast]
  have hzl : zs.length ≤ 16777216 := by
    rw [← hz, Disk.readOf, Disk.isFile_yes (by omega), if_pos rfl, Int.toNat_natCast]
    exact Disk.now_bound h.disk i hi
  have hnl : ns.length ≤ 16777216 := by have := stop_count ns 0; have := hd.le; omega
  have hfi : Disk.isFile (i : Int) = true := Disk.isFile_yes (by omega)
  have happ : Disk.appErr σ i 0 = 0 := by
    have := Disk.now_bound h.disk i hi
    unfold Disk.appErr
    rw [hfi, if_pos rfl, Int.toNat_natCast, if_neg (by omega)]
  have hst : Disk.appSt σ i [] = σ := by
    unfold Disk.appSt
    rw [show ([] : List Int).length = 0 from rfl, happ, if_pos rfl, Int.toNat_natCast, List.map_nil, List.append_nil]
    funext j
    unfold setSt
    split
    · rename_i e; rw [e]
    · rfl
  have c1 := Disk.append_any D w own σ m h.disk (by omega) i none 0 0 [] ⟨rfl, by simp, fun i hi => by omega⟩ (fun _ => rfl) (by decide)
  rw [happ, hst] at c1
  obtain ⟨n, hn⟩ : ∃ n, zs.length = n := ⟨_, rfl⟩
  have c2 := fun (w1 : World) (own1 : Owns) (h1 : Live W w1 own1 D σ (m + 1)) => Disk.read_any D w1 own1 σ (m + 1) h1.disk (by omega) i
  rw [hz, hn] at c2
  refine callsIn_of_wp_marks Try.func7 rfl trivial ?_ rfl
  simp only [Try.ntmps7, List.size_toArray, List.length_cons, List.length_nil, Nat.reduceAdd, Nat.reduceSub, Array.replicate_succ, Array.replicate_zero, List.push_toArray, List.append_toArray, List.nil_append, List.cons_append]
  gi_wp2_with (first
    | (refine ⟨trivial, ?_⟩; gi_at_call 22; refine (callsIn_wide.2 (records_any _ _ _ _)).mono ?_; rintro e w3 ⟨rfl, rfl⟩)
    | (refine ⟨trivial, ?_⟩; gi_at_call 16; refine (callsIn_wide.2 (c2 w1 own1 h1)).mono ?_; rintro e w2 ⟨a, cap, rfl, o2, b2⟩)
    | (refine ⟨trivial, ?_⟩; gi_at_call 21; refine (callsIn_wide.2 c1).mono ?_; rintro e w1 ⟨rfl, g1⟩; obtain ⟨own1, h1, f1⟩ := h.goes g1))
  have hform := Disk.owns_form o2
  have hr2 := (owns_row o2 (by rw [← hz]; exact readSmall h1 i)).1
  obtain ⟨V, hV⟩ : ∃ V, ((w2.alloc (Obj.cells #[Value.slice none 0 0] 27)).alloc (Obj.cells #[Value.int IntKind.i64 0] 3)).alloc (Obj.cells #[Value.slice a n cap] 22) = V := ⟨_, rfl⟩
  have hsz : V.heap.size = w2.heap.size + 1 + 1 + 1 := by rw [← hV]; simp
  have bT : Boxed V w2.heap.size 27 (.slice none 0 0) := by rw [← hV]; exact ((Boxed.new w2 _ _).alloc _).alloc _
  have bE : Boxed V (w2.heap.size + 1) 3 (.int .i64 0) := by
    rw [← hV]
    have := Boxed.new (w2.alloc (Obj.cells #[Value.slice none 0 0] 27)) 3 (.int .i64 0)
    rw [World.size_alloc] at this
    exact this.alloc _
  have bB : Boxed V (w2.heap.size + 1 + 1) 22 (.slice a n cap) := by
    rw [← hV]
    have := Boxed.new ((w2.alloc (Obj.cells #[Value.slice none 0 0] 27)).alloc (Obj.cells #[Value.int IntKind.i64 0] 3)) 22 (.slice a n cap)
    rw [World.size_alloc, World.size_alloc] at this
    exact this
  have bV : Below w2.heap.size w2 V := by rw [← hV]; exact ((((Below.refl _ w2).alloc (Nat.le_refl _) _).alloc (by simp) _).alloc (by simp; omega) _)
  rw [hV]
  clear hV
  obtain ⟨x, hx⟩ : ∃ x : Addr, (∀ y, a = Option.some y → y = x) ∧ x.block < w2.heap.size + 1 := by
    cases a with
    | none => exact ⟨⟨0, 0, none⟩, fun y hy => (by cases hy), by simp⟩
    | some y =>
      obtain ⟨g, hg, hlt⟩ := hform.2.1 y rfl
      exact ⟨y, fun z hz => (Option.some.inj hz).symm, by rw [hg]; show g < _; omega⟩
  have hcap : cap ≤ 9223372036854775807 := by
    rcases o2.2 with ⟨e0, h00⟩ | ⟨g, cap', cur, e0, hb0, hg0, hc0, hm0, _⟩
    · cases e0; omega
    · cases e0; unfold maxLen at hm0; omega
  refine wpIn_rangeFunc_ownG rfl (by omega) (gf := 34) (lb := #[.pointer (Option.some ⟨w2.heap.size + 1 + 1, 0, none⟩)]) rfl trivial (enters_of Try.func34 (by kernel_rfl) rfl)
    (records_stops 8 (by omega) (w2.heap.size + 1 + 1) a n cap zs ns hd hform.2.2 hcap hform.1 V bB.cell (hr2.after bV) x hx.1 (fun _ => by omega)) Kp.trans ?kb (Below.refl _ _) (fun _ => rfl)
    (fun pre V' => Told (w2.heap.size + 1 + 1 + 1) w2.heap.size (w2.heap.size + 1) (w2.heap.size + 1 + 1) (.slice a n cap) w2 pre V') (fun _ _ _ => False)
    (told_own (Nat.le_refl _) (by omega)) (fun _ _ _ _ _ hs _ _ => hs)
    ⟨⟨.slice none 0 0, [], bT, World.ownsRow_nil _ _ _ _, rfl, fun p hp => (by cases hp)⟩, bE, bB, bV⟩
    (fun r => { tmps := #[.pointer (Option.some ⟨D, 0, none⟩), .int .i64 i, undef, undef, .pointer none, .slice none 0 0, .int .i64 0, .slice a n cap, .pointer (Option.some ⟨w2.heap.size, 0, none⟩), .pointer (Option.some ⟨w2.heap.size + 1, 0, none⟩), .int .i64 r.1.1, .slice (Option.some (x.add (r.1.1 + 8))) r.1.2 (cap - (r.1.1 + 8)),
      .pointer (Option.some ⟨D, 0, none⟩), .int .i64 i, .int .i64 0, .bool false, .pointer (Option.some ⟨D, 0, none⟩), .int .i64 i, .slice a n cap, .slice a n cap, .func (.func 34) #[] #[.pointer (Option.some ⟨w2.heap.size + 1 + 1, 0, none⟩)], .int .i64 r.1.1, .slice (Option.some (x.add (r.1.1 + 8))) r.1.2 (cap - (r.1.1 + 8)),
      undef, undef, undef, undef, undef, undef, undef, undef, undef, undef, undef, undef, undef, undef, undef, undef, undef, undef, undef, undef, undef, undef, undef, undef, undef, undef], defers := [] }) ?assign ?body ?done ?stop
  case kb =>
    intro W' l o o' hl ho _ _
    have hlt := (Array.getElem?_eq_some_iff.1 ho).1
    have hg := grownBy_putObj' W' l o'
    exact ⟨hg.block _ (by omega) (fun e => by cases e; omega), hg.block _ (by omega) (fun e => by cases e; omega)⟩
  case assign =>
    intro l r V' K hK
    simp only [encs]
    gi_wp2
    exact hK
  case body =>
    rintro l pre r V' hI hlt
    obtain ⟨v, ps, hv, hrow, hps, hfr⟩ := hI.told
    have hc := hv.cell
    have hrp := bytesRow hx.1 (hr2.after hI.below) r
    have hkl : r.1.2 ≤ 65536 := r.2.2.1
    have hxT : x.block < w2.heap.size := by
      have h2 := r.2
      have hl := hr2.len
      obtain ⟨y', hy', _⟩ := hr2.cell 0 (by omega)
      obtain rfl := hx.1 y' hy'
      obtain ⟨g, hg, hlt⟩ := hform.2.1 y' hy'
      rw [hg]
      exact hlt
    have hmx : Try.prog.follows .mixedOrders = true := by kernel_rfl
    have hsV : w2.heap.size + 1 + 1 + 1 ≤ V'.heap.size := by have := hI.box.lt; omega
    have hpl : ps.length + 1 ≤ 16777216 := by
      have e := congrArg List.length hps
      rw [List.length_map, List.length_map] at e
      omega
    have cC := fun (v' : World) (hb : Below V'.heap.size V' v') => clone_told hI r v ps hv hrow hps hfr hsV (by omega) (by omega) (by omega) (by omega) (by omega) (by omega) hpl (cap - (r.1.1 + 8)) hrp v' hb
    have he : Hid ((r.1.1 : Int) + 8 + r.1.2 = (endOf (pre ++ [r]) : Nat)) := by rw [endOf_snoc]; show _ = _; omega
    clear hrp
    generalize x.add (r.1.1 + 8) = y at *
    generalize cap - (r.1.1 + 8) = cy at *
    have hp0 : (r.1.1 : Int) ≤ 16777216 := by have := r.2; omega
    gi_wp2
    refine wpIn_region_any (by assumption) ?_
    change wpAnyIn _ _ _ _ _ _ _ _ _ (World.drew _)
    refine wpAnyIn_ready (rs := [0, 1]) (by kernel_rfl) (by simp) ?_
    refine AllReadyIn.cons rfl (fun K hK => ?_) (AllReadyIn.cons rfl (fun K hK => ?_) AllReadyIn.nil)
    · go_simp
      refine hK _ _ ?_
      clear hK K
      refine wpAnyIn_ready (rs := [1]) (by kernel_rfl) (by simp) ?_
      refine AllReadyIn.cons rfl (fun K hK => ?_) AllReadyIn.nil
      · go_simp
        refine hK _ _ ?_
        clear hK K
        refine wpAnyIn_ready (rs := [2]) (by kernel_rfl) (by simp) ?_
        refine AllReadyIn.cons rfl (fun K hK => ?_) AllReadyIn.nil
        · go_simp
          gi_wp2_with (refine ⟨trivial, ?_⟩; gi_at_call 23; refine (CallsIn.inRound l (callsIn_wide.2 (cC _ (Below.refl _ _).drew))).mono ?_; rintro e w5 ⟨a5, c5, g6, c6, w6, rfl, hc5, hrun, hT6, hF6, hE6, hG6, HH⟩; have hc5a := cell_more (.cells #[.slice a5 r.1.2 c5] 22) hc5)
          refine wpAnyIn_ready (rs := [3]) (by kernel_rfl) (by simp) ?_
          refine AllReadyIn.cons rfl (fun K hK => ?_) AllReadyIn.nil
          · go_simp
            refine hK _ _ ?_
            clear hK K
            refine wpAnyIn_ready (rs := [4]) (by kernel_rfl) (by simp) ?_
            refine AllReadyIn.cons rfl (fun K hK => ?_) AllReadyIn.nil
            · refine stIn_append rfl (.tmp 23) (.tmp 26) rfl _ _ rfl rfl hrun ?_
              go_simp
              refine hK _ _ ?_
              clear hK K
              refine wpAnyIn_ready (rs := [5]) (by kernel_rfl) (by simp) ?_
              refine AllReadyIn.cons rfl (fun K hK => ?_) AllReadyIn.nil
              · go_simp
                refine hK _ _ ?_
                clear hK K
                refine wpAnyIn_done (by kernel_rfl) ?_ _
                gi_wp2
                rw [he.out]
                obtain ⟨H1, H2, H3⟩ := HH.out
                exact ⟨by rw [hsz]; exact H1, ⟨H2 _ hxT, H3.box.trans hI.box.symm⟩, H3⟩
    · go_simp
      refine hK _ _ ?_
      clear hK K
      refine wpAnyIn_ready (rs := [0, 2]) (by kernel_rfl) (by simp) ?_
      refine AllReadyIn.cons rfl (fun K hK => ?_) (AllReadyIn.cons rfl (fun K hK => ?_) AllReadyIn.nil)
      · go_simp
        refine hK _ _ ?_
        clear hK K
        refine wpAnyIn_ready (rs := [2]) (by kernel_rfl) (by simp) ?_
        refine AllReadyIn.cons rfl (fun K hK => ?_) AllReadyIn.nil
        · go_simp
          gi_wp2_with (refine ⟨trivial, ?_⟩; gi_at_call 23; refine (CallsIn.inRound l (callsIn_wide.2 (cC _ (Below.refl _ _).drew))).mono ?_; rintro e w5 ⟨a5, c5, g6, c6, w6, rfl, hc5, hrun, hT6, hF6, hE6, hG6, HH⟩; have hc5a := cell_more (.cells #[.slice a5 r.1.2 c5] 22) hc5)
          refine wpAnyIn_ready (rs := [3]) (by kernel_rfl) (by simp) ?_
          refine AllReadyIn.cons rfl (fun K hK => ?_) AllReadyIn.nil
          · go_simp
            refine hK _ _ ?_
            clear hK K
            refine wpAnyIn_ready (rs := [4]) (by kernel_rfl) (by simp) ?_
            refine AllReadyIn.cons rfl (fun K hK => ?_) AllReadyIn.nil
            · refine stIn_append rfl (.tmp 23) (.tmp 26) rfl _ _ rfl rfl hrun ?_
              go_simp
              refine hK _ _ ?_
              clear hK K
              refine wpAnyIn_ready (rs := [5]) (by kernel_rfl) (by simp) ?_
              refine AllReadyIn.cons rfl (fun K hK => ?_) AllReadyIn.nil
              · go_simp
                refine hK _ _ ?_
                clear hK K
                refine wpAnyIn_done (by kernel_rfl) ?_ _
                gi_wp2
                rw [he.out]
                obtain ⟨H1, H2, H3⟩ := HH.out
                exact ⟨by rw [hsz]; exact H1, ⟨H2 _ hxT, H3.box.trans hI.box.symm⟩, H3⟩
      · go_simp
        gi_wp2_with (refine ⟨trivial, ?_⟩; gi_at_call 23; refine (CallsIn.inRound l (callsIn_wide.2 (cC _ (Below.refl _ _).drew))).mono ?_; rintro e w5 ⟨a5, c5, g6, c6, w6, rfl, hc5, hrun, hT6, hF6, hE6, hG6, HH⟩; have hc5a := cell_more (.cells #[.slice a5 r.1.2 c5] 22) hc5)
        refine wpAnyIn_ready (rs := [0, 3]) (by kernel_rfl) (by simp) ?_
        refine AllReadyIn.cons rfl (fun K hK => ?_) (AllReadyIn.cons rfl (fun K hK => ?_) AllReadyIn.nil)
        · go_simp
          refine hK _ _ ?_
          clear hK K
          refine wpAnyIn_ready (rs := [3]) (by kernel_rfl) (by simp) ?_
          refine AllReadyIn.cons rfl (fun K hK => ?_) AllReadyIn.nil
          · go_simp
            refine hK _ _ ?_
            clear hK K
            refine wpAnyIn_ready (rs := [4]) (by kernel_rfl) (by simp) ?_
            refine AllReadyIn.cons rfl (fun K hK => ?_) AllReadyIn.nil
            · refine stIn_append rfl (.tmp 23) (.tmp 26) rfl _ _ rfl rfl hrun ?_
              go_simp
              refine hK _ _ ?_
              clear hK K
              refine wpAnyIn_ready (rs := [5]) (by kernel_rfl) (by simp) ?_
              refine AllReadyIn.cons rfl (fun K hK => ?_) AllReadyIn.nil
              · go_simp
                refine hK _ _ ?_
                clear hK K
                refine wpAnyIn_done (by kernel_rfl) ?_ _
                gi_wp2
                rw [he.out]
                obtain ⟨H1, H2, H3⟩ := HH.out
                exact ⟨by rw [hsz]; exact H1, ⟨H2 _ hxT, H3.box.trans hI.box.symm⟩, H3⟩
        · go_simp
          refine hK _ _ ?_
          clear hK K
          refine wpAnyIn_ready (rs := [0]) (by kernel_rfl) (by simp) ?_
          refine AllReadyIn.cons rfl (fun K hK => ?_) AllReadyIn.nil
          · go_simp
            refine hK _ _ ?_
            clear hK K
            refine wpAnyIn_ready (rs := [4]) (by kernel_rfl) (by simp) ?_
            refine AllReadyIn.cons rfl (fun K hK => ?_) AllReadyIn.nil
            · refine stIn_append rfl (.tmp 23) (.tmp 26) rfl _ _ rfl rfl hrun ?_
              go_simp
              refine hK _ _ ?_
              clear hK K
              refine wpAnyIn_ready (rs := [5]) (by kernel_rfl) (by simp) ?_
              refine AllReadyIn.cons rfl (fun K hK => ?_) AllReadyIn.nil
              · go_simp
                refine hK _ _ ?_
                clear hK K
                refine wpAnyIn_done (by kernel_rfl) ?_ _
                gi_wp2
                rw [he.out]
                obtain ⟨H1, H2, H3⟩ := HH.out
                exact ⟨by rw [hsz]; exact H1, ⟨H2 _ hxT, H3.box.trans hI.box.symm⟩, H3⟩
  case done =>
    rintro D' ys V' hD' hS hI hK
    have hend := end_stop hS
    have hsays := told_says hS
    have bV' : Below w1.heap.size w1 V' := b2.trans (hI.below.mono b2.size)
    have hL' := h1.later bV'
    obtain ⟨v, ps, hv, hrow, hps, hfr⟩ := hI.told
    obtain ⟨ta, tcap, rfl⟩ := owns_slice hrow
    have hlen : ps.length = ns.length := by
      have := congrArg List.length hps
      rw [hsays, List.length_map, says_length] at this
      exact this
    have hT := hv.cell
    have hE := hI.fin.cell
    rw [hend] at hE
    have hpl : ∀ p ∈ ps, p.zs.length ≤ 140737488355328 := by
      intro p hp
      have hm1 : p.zs ∈ ys.map (bytesAt zs) := by rw [← hps]; exact List.mem_map.2 ⟨p, hp, rfl⟩
      obtain ⟨r, _, hr⟩ := List.mem_map.1 hm1
      rw [← hr, bytesAt_length]
      have := r.2
      omega
    generalize hst2 : stop 0 ns = e0 at *
    rw [hn] at hnow
    have hle0 : e0 ≤ n := by have := hd.le; omega
    have hmx : Try.prog.follows .mixedOrders = true := by kernel_rfl
    have fT : Free own1 V' w2.heap.size := h1.free b2.size hv.lt
    have fK : Free own1 V' D' := h1.free (by have := b2.size; omega) (Array.getElem?_eq_some_iff.1 hK).1
    by_cases hlt : e0 < n
    · have t1 : (e0 : Int) < (n : Int) := by omega
      have cut := Disk.cut_any D V' own1 σ (m + 1) hL'.disk (by omega) i e0
      gi_wp2_with (first
        | (refine ⟨trivial, ?_⟩; gi_at_call 25; refine (callsIn_wide.2 (Disk.sync_any D w7 own7 _ (m + 1 + 1) h7.disk (by omega) i)).mono ?_; rintro e w8 ⟨rfl, g8⟩; obtain ⟨own8, h8, f8⟩ := h7.goes g8; have hT8 := (cell_block (p := ⟨w2.heap.size, 0, none⟩) (fT.go (f7.trans f8)).2).trans hT; have hT8a := cell_more (.cells #[.pointer (Option.some ⟨D, 0, none⟩), .int .i64 i] 61) hT8)
        | (refine ⟨trivial, ?_⟩; gi_at_call 24; refine (callsIn_wide.2 cut).mono ?_; rintro e w7 ⟨rfl, g7⟩; obtain ⟨own7, h7, f7⟩ := hL'.goes g7))
      gi_region_o
      gi_wp2
      obtain ⟨q1, q2, q3, q4, q5⟩ := open_fin (i := i) h.below.size (f1.trans (Fr.below bV')) (f7.trans f8) h8 hK (by have := b2.size; have := f1.kept.size; omega) (fun k _ hk hlt => h1.free (by have := b2.size; omega) hlt) (by have := b2.size; have := f1.kept.size; omega) hrow hfr hpl
      refine ⟨by simp, .inl ⟨_, _, rfl, run_takeDeferred q1, ?_⟩⟩
      exact ⟨_, results_tmp3 rfl _ _ _, own8, w8.heap.size, ta, tcap, ps, by rw [← hlen]; rfl, by rw [hst2]; rw [openSt_cut σ i e0 hi (by rw [hnow]; exact hlt)] at q2; exact q2, q3, q4, by rw [← hlen]; exact q5, hps.trans hsays, by rw [← hlen]; exact (Disk.owns_form hrow).2.2⟩
    · have t1 : ¬ ((e0 : Int) < (n : Int)) := by omega
      have hT8a := cell_more (.cells #[.pointer (Option.some ⟨D, 0, none⟩), .int .i64 i] 61) hT
      gi_wp2
      gi_region_o
      gi_wp2
      obtain ⟨q1, q2, q3, q4, q5⟩ := open_fin (i := i) h.below.size (f1.trans (Fr.below bV')) (Fr.refl own1 V') (hL'.more (show m + 1 ≤ m + 3 by omega)) hK (by have := b2.size; have := f1.kept.size; omega) (fun k _ hk hlt => h1.free (by have := b2.size; omega) hlt) (by have := b2.size; have := f1.kept.size; omega) hrow hfr hpl
      refine ⟨by simp, .inl ⟨_, _, rfl, run_takeDeferred q1, ?_⟩⟩
      exact ⟨_, results_tmp3 rfl _ _ _, own1, V'.heap.size, ta, tcap, ps, by rw [← hlen]; rfl, by rw [hst2, openSt, if_neg (by rw [hnow]; exact hlt)]; exact q2, q3, q4, by rw [← hlen]; exact q5, hps.trans hsays, by rw [← hlen]; exact (Disk.owns_form hrow).2.2⟩
  case stop =>
    rintro D' c pre V' _ _ hh _
    exact hh.elim

theorem open_cap {W w : World} {own : Owns} {D : Nat} {σ : St} {m : Nat} (h : Live W w own D σ m) (hm : m + 3 < 4194304) (i : Nat) (hi : i < 2) (zs : List Int) (hz : now σ i = zs) (ns : List Nat) (hd : Done zs ns) :
    Calls Try.prog 7 #[.pointer (Option.some ⟨D, 0, none⟩), .int .i64 i] w fun e w' => ∃ own' L ta tcap ps, e = .returned (.tuple #[.pointer (Option.some ⟨L, 0, none⟩), .slice ta ns.length tcap, .int .i64 0]) ∧
      Live W w' own' D (openSt σ i (stop 0 ns)) (m + 3) ∧ Fr own own' w w' ∧ LogIs own' w' L D i ∧ FreeTexts own' w' ta ns.length ps ∧ ps.map Piece.zs = says zs 0 ns ∧ ns.length ≤ tcap :=
  callsIn_wide.1 (open_in h hm i hi zs (by rw [← hz, Disk.readOf, Disk.isFile_yes (by omega), if_pos rfl, Int.toNat_natCast]) ns hd)
theorem open_any {W w : World} {own : Owns} {D : Nat} {σ : St} {m : Nat} (h : Live W w own D σ m) (hm : m + 3 < 4194304) (i : Nat) (hi : i < 2) (zs : List Int) (hz : now σ i = zs) (ns : List Nat) (hd : Done zs ns) :
    Calls Try.prog 7 #[.pointer (Option.some ⟨D, 0, none⟩), .int .i64 i] w fun e w' => ∃ own' L ta tcap ps, e = .returned (.tuple #[.pointer (Option.some ⟨L, 0, none⟩), .slice ta ns.length tcap, .int .i64 0]) ∧
      Live W w' own' D (openSt σ i (stop 0 ns)) (m + 3) ∧ Fr own own' w w' ∧ LogIs own' w' L D i ∧ FreeTexts own' w' ta ns.length ps ∧ ps.map Piece.zs = says zs 0 ns :=
  (open_cap h hm i hi zs hz ns hd).mono fun e w' ⟨own', L, ta, tcap, ps, h1, h2, h3, h4, h5, h6, _⟩ => ⟨own', L, ta, tcap, ps, h1, h2, h3, h4, h5, h6⟩

set_option maxHeartbeats 1000000 in
theorem open_none {W w : World} {own : Owns} {D : Nat} {σ : St} {m : Nat} (h : Live W w own D σ m) (hm : m < 4194304) (f : Int) (hf : ¬ (f = 0 ∨ f = 1)) :
    Calls Try.prog 7 #[.pointer (Option.some ⟨D, 0, none⟩), .int .i64 f] w fun e w' => e = .returned (.tuple #[.pointer none, .slice none 0 0, .int .i64 1]) ∧ ∃ own', Live W w' own' D σ (m + 1) ∧ Fr own own' w w' := by
  have c1 := Disk.append_any D w own σ m h.disk (by omega) f none 0 0 [] ⟨rfl, by simp, fun i hi => by omega⟩ (fun _ => rfl) (by decide)
  have happ : ∀ l, Disk.appErr σ f l = 1 := fun l => by unfold Disk.appErr; rw [Disk.isFile_no hf]; rfl
  have hst : Disk.appSt σ f [] = σ := by unfold Disk.appSt; rw [happ, if_neg (by decide)]
  rw [happ, hst] at c1
  refine (callsIn_wide (n := 9)).1 ?_
  refine callsIn_of_wp_marks Try.func7 rfl trivial ?_ rfl
  simp only [Try.ntmps7, List.size_toArray, List.length_cons, List.length_nil, Nat.reduceAdd, Nat.reduceSub, Array.replicate_succ, Array.replicate_zero, List.push_toArray, List.append_toArray, List.nil_append, List.cons_append]
  gi_wp2_with (refine ⟨trivial, ?_⟩; gi_at_call 21; refine (callsIn_wide.2 c1).mono ?_; rintro e w1 ⟨rfl, g1⟩; obtain ⟨own1, h1, f1⟩ := h.goes g1)
  exact ⟨_, results_tmp3 rfl _ _ _, rfl, own1, h1, f1⟩
end Go.Proofs.Ytnehkjabhmhijaa.Wal
