/-
  A row of cells: of the k-th bin from above there are k to put away, at the cell beside.
-/
import Derived.Test.YtgnpmjlliolmoaaDigRowsPlain
import Derived.Test.YtgnpmjlliolmoaaDigSameStacks
import Derived.Deep.DeepCutAuto
import Derived.Deep.CutRange
namespace Go.Proofs.Ytgnpmjlliolmoaa.Dig
set_option linter.unusedVariables false
set_option linter.unusedSimpArgs false
open Go Go.RowKit Go.Shelf Go.Proofs Go.Proofs.Ytgnpmjlliolmoaa.Grid Go.Proofs.Ytgnpmjlliolmoaa.Srt
attribute [local go_sem] Oper.semAt_some

theorem frozenR {w : World} {N : Nat} {cs : Array Value} {t : TypeId} (h : w.heap[N]? = some (.cells cs t (0, 0))) (j : Nat) : w.frozen? ⟨N, j, none⟩ = false := by unfold World.frozen?; rw [h]; simp
theorem setc_grown (w : World) (a : Addr) (u : Value) : w.grownBy (w.setCell a u) (some a.block) := ⟨rfl, rfl, rfl, by simp, fun k _ hk => heap_setCell_other w a k u (fun e => hk (by rw [e]))⟩
/- The config while its cells that are blocked are written down. -/
structure Bl (B cb m b i : Nat) (bv : Value) (W : World) : Prop where
  conf : W.heap[cb]? = some (.cells #[.int .i64 ((m : Int) + 2), .int .i64 2, .int .i64 3, bv, .slice (some ⟨b, 0, none⟩) 1 1, .slice none 0 0, .slice none 0 0, .int .i64 1, .int .i64 1, .int .i64 1, .int .i64 1, .int .i64 1, .int .i64 1, .int .i64 1, .int .i64 1, .bool true] 26 (0, 0))
  row : W.ownsRow B 28 2 bv (blkR i).length (rowL cellL (blkR i))
  size : B ≤ W.heap.size
/- The config as it is. -/
structure Kp (W : World) (cb pb m h : Nat) (bv : Value) (B : Nat) : Prop where
  conf : W.heap[cb]? = some (.cells #[.int .i64 ((m : Int) + 2), .int .i64 2, .int .i64 h, bv, .slice (some ⟨pb, 0, none⟩) 1 1, .slice none 0 0, .slice none 0 0, .int .i64 1, .int .i64 1, .int .i64 1, .int .i64 1, .int .i64 1, .int .i64 1, .int .i64 1, .int .i64 1, .bool false] 26 (0, 0))
  port : W.heap[pb]? = some (.cells #[.int .i64 ((m : Int) + 1), .int .i64 0] 28 (0, 0))
  row : W.ownsRow B 28 2 bv (blkR (m + 1)).length (rowL cellL (blkR (m + 1)))
theorem pileR_len {h : Nat} (h2 : h ≤ 8) (x : Cell) : (pileOf (stksR h) x).length ≤ 17592186044416 := by
  rw [pileR]
  split
  · rw [binsR_len]; omega
  · simp
set_option maxRecDepth 100000 in
theorem jobsR_any {m h k : Nat} (m1 : 1 ≤ m) (m2 : m ≤ 8) (h1 : 1 ≤ h) (h2 : h ≤ 8) (hk : k < h) (bv : Value) (pb s : Nat) (xa : Option Addr) (xc : Nat) (w : World) (Fb Fi : Nat → Prop) (hB : ListAt 2 cellEl Fb (blkR (m + 1)) bv w) (hFb : ∀ q, Fb q → q < w.heap.size) (hp : w.heap[pb]? = some (.cells #[.int .i64 ((m : Int) + 1), .int .i64 0] 28 (0, 0)))
    (hI : ListAt 1 intEl Fi (binsR h) (.slice xa h xc) w) (hFi : ∀ q, Fi q → q < w.heap.size) (hc : h ≤ xc) (hs : w.heap[s]? = some (.cells #[.int .i64 0, .int .i64 0, .slice xa h xc] 49 (0, 0))) :
    Calls Try.prog 8 #[.agg #[.int .i64 ((m : Int) + 2), .int .i64 2, .int .i64 h, bv, .slice (some ⟨pb, 0, none⟩) 1 1, .slice none 0 0, .slice none 0 0, .int .i64 1, .int .i64 1, .int .i64 1, .int .i64 1, .int .i64 1, .int .i64 1, .int .i64 1, .int .i64 1, .bool false], .slice (some ⟨s, 0, none⟩) 1 1, .slice none 0 0, .int .i64 (100 + (h : Int) - 1 - k), .agg #[.int .i64 ((m : Int) + 1), .int .i64 0]] w fun e w' => ∃ v, e = .returned v ∧ ((∃ ja jc, v = .tuple #[.slice (some ja) (k + 1) jc, .int .i64 0] ∧ ja.block < w'.heap.size ∧ (∀ i, i < k → w'.cell? ((ja.add (i * 9)).add 1) = some (.int .i64 1) ∧ w'.cell? ((ja.add (i * 9)).add 3) = some (.int .i64 (100 + (h : Int) - 1 - i)) ∧ ∀ j z, #[Value.int .i64 1, .int .i64 0][j]? = some z → w'.cell? (((ja.add (i * 9)).add 6).add j) = some z) ∧ w'.cell? ((ja.add (k * 9)).add 1) = some (.int .i64 2)) ∧ Below w.heap.size w w') := by
  have lp := lt_of_heap hp
  have ls := lt_of_heap hs
  have hA : ConfAt (fun q => Fb q ∨ q = pb) (confR m h) bv (.slice (some ⟨pb, 0, none⟩) 1 1) (.slice none 0 0) (.slice none 0 0) w := ⟨hB.mono heldCell (fun q hq => Or.inl hq), list_cell1 (x := ((m : Int) + 1, 0)) hp _ (Or.inr rfl), ListAt.nil _ _ _ _, ListAt.nil _ _ _ _⟩
  have hL : ListAt 3 stackElC (fun q => Fi q ∨ q = s) (stksR h) (.slice (some ⟨s, 0, none⟩) 1 1) w := list_stk1 (x := (0, 0)) (bs := binsR h) hs _ (Or.inr rfl) (binsR_len h).symm hc (hI.mono heldInt (fun q hq => Or.inl hq))
  have cJ := jobs_some hA (fun q h => by rcases h with h | h; exact hFb q h; rw [h]; exact lp) (by show (blkR (m + 1)).length ≤ _; rw [blkR_len]; omega) (by show 1 ≤ _; decide) (by show 0 ≤ _; decide) (by show 0 ≤ _; decide) (newR m1 m2 h1 h2) (fun q => Fi q ∨ q = s) (stksR h) (some ⟨s, 0, none⟩) 1 1 hL (fun q h => by rcases h with h | h; exact hFi q h; rw [h]; exact ls) (by omega) (pileR_len h2) (fun _ => False) [] none 0 0 (ListAt.nil _ _ _ _) (fun _ h => h.elim) (by omega) (100 + (h : Int) - 1 - k) ((m : Int) + 1, 0)
  refine Calls.mono (show Calls Try.prog 8 #[.agg #[.int .i64 ((m : Int) + 2), .int .i64 2, .int .i64 h, bv, .slice (some ⟨pb, 0, none⟩) 1 1, .slice none 0 0, .slice none 0 0, .int .i64 1, .int .i64 1, .int .i64 1, .int .i64 1, .int .i64 1, .int .i64 1, .int .i64 1, .int .i64 1, .bool false], .slice (some ⟨s, 0, none⟩) 1 1, .slice none 0 0, .int .i64 (100 + (h : Int) - 1 - k), .agg #[.int .i64 ((m : Int) + 1), .int .i64 0]] w _ from cJ) ?_
  rintro e w' ⟨rv, rfl, ⟨r, v, ee, rfl, hR, hO⟩, bw⟩
  have hnd : (rowR m).Nodup := by rw [← tS m (in8 m1 m2)]; exact stk_nodup _ _ _
  have hR2 : JobsR [((m : Int) + 1, 0)] (stksR h) h (rowR m) [] false (100 + (h : Int) - 1 - k) ((m : Int) + 1, 0) r ee := by rw [← tS m (in8 m1 m2)]; exact hR
  obtain ⟨rfl, hl, hi, hkk⟩ := jobsR m1 m2 h1 hk hnd hR2
  have itm : ∀ i (q : i < r.length), ∃ p cap, v = .slice (some p) r.length cap ∧ p.block < w'.heap.size ∧ ∀ j z, (jobL (r[i]'q)).toArray[j]? = some z → w'.cell? ((p.add (i * 9)).add j) = some z := fun i q => by
    obtain ⟨p, cs, cap2, hv, hF, hcs, hrd⟩ := (list_of_own kindJob.len hO).item q
    have hcs2 : cs = (jobL (r[i]'q)).toArray := hcs
    subst hcs2
    exact ⟨p, cap2, hv, hF.2, hrd⟩
  obtain ⟨ja, jc, hv, hja, hrk⟩ := itm k (by omega)
  refine ⟨_, rfl, ⟨ja, jc, by rw [hv, hl], hja, fun i hlt => ?_, ?_⟩, bw⟩
  · obtain ⟨p2, c2, hv2, _, hrd⟩ := itm i (by omega)
    rw [hv] at hv2
    injection hv2 with q1 _ _
    injection q1 with q1
    subst q1
    have e1 : r[i]'(by omega) = (1, 100 + (h : Int) - 1 - i, (0, 0), (1, 0)) := by have := hi i hlt; rw [List.getElem?_eq_getElem (show i < r.length by omega)] at this; injection this
    rw [e1] at hrd
    refine ⟨hrd 1 _ rfl, hrd 3 _ rfl, fun j z hz => ?_⟩
    rw [add_add]
    refine hrd (6 + j) z ?_
    match j, hz with
    | 0, hz => exact hz
    | 1, hz => exact hz
    | j + 2, hz => simp at hz
  · have e1 : r[k]'(by omega) = (2, 100 + (h : Int) - 1 - k, (0, 0), ((m : Int) + 1, 0)) := by have := hkk; rw [List.getElem?_eq_getElem (show k < r.length by omega)] at this; injection this
    rw [e1] at hrk
    exact hrk 1 _ rfl
set_option maxRecDepth 100000 in
set_option maxHeartbeats 4000000 in
theorem rows_all_law (w : World) (a0 a1 a2 : Int) : Calls Try.prog 5 #[.int .i64 a0, .int .i64 a1, .int .i64 a2] w fun e w' => e = .returned (.bool true) ∧ Below w.heap.size w w' := by
  obtain ⟨h0, hh0⟩ : ∃ h0 : Nat, placeG a0 8 = (h0 : Int) := ⟨(placeG a0 8).toNat, by have := (placeG_bd a0 8 (by decide)).1; omega⟩
  have hh1 : h0 < 8 := by have := (placeG_bd a0 8 (by decide)).2; omega
  obtain ⟨k, hk0⟩ : ∃ k : Nat, placeG a1 (1 + (h0 : Int)) = (k : Int) := ⟨(placeG a1 (1 + (h0 : Int))).toNat, by have := (placeG_bd a1 (1 + (h0 : Int)) (by omega)).1; omega⟩
  have hk1 : k < h0 + 1 := by have := (placeG_bd a1 (1 + (h0 : Int)) (by omega)).2; omega
  obtain ⟨m0, hm0⟩ : ∃ m0 : Nat, placeG a2 8 = (m0 : Int) := ⟨(placeG a2 8).toNat, by have := (placeG_bd a2 8 (by decide)).1; omega⟩
  have hm1 : m0 < 8 := by have := (placeG_bd a2 8 (by decide)).2; omega
  have cP1 := placeG_any a0 8 w (by decide) (by decide)
  have cP2 := placeG_any a1 (1 + (h0 : Int)) w (by omega) (by omega)
  have cP3 := placeG_any a2 8 w (by decide) (by decide)
  rw [hh0] at cP1
  rw [hk0] at cP2
  rw [hm0] at cP3
  clear hh0 hk0 hm0
  go_enter Try.func5, Try.ntmps5
  go_upto_region 4 with (first
    | (go_at_call 16; refine cP1.mono ?_; rintro e w1 ⟨rfl, hw1⟩; rw [hw1]; clear hw1 w1 cP1)
    | (go_at_call 16; refine cP2.mono ?_; rintro e w1 ⟨rfl, hw1⟩; rw [hw1]; clear hw1 w1 cP2)
    | (go_at_call 16; refine cP3.mono ?_; rintro e w1 ⟨rfl, hw1⟩; rw [hw1]; clear hw1 w1 cP3))
  obtain ⟨h, hh⟩ : ∃ h : Nat, 1 + (h0 : Int) = (h : Int) := ⟨h0 + 1, by omega⟩
  obtain ⟨m, hm⟩ : ∃ m : Nat, 1 + (m0 : Int) = (m : Int) := ⟨m0 + 1, by omega⟩
  have bh : 1 ≤ h ∧ h ≤ 8 := by omega
  have bm : 1 ≤ m ∧ m ≤ 8 := by omega
  have bk : k < h := by omega
  rw [hh, hm]
  clear hh hm hh1 hk1 hm1
  go_upto_region 5 with (go_at_call 21; refine (confD_any _).mono ?_; rintro e w1 ⟨b, rfl, hb, hcb, b1⟩)
  obtain ⟨w2, hw2⟩ : ∃ w2, w2 = w1.alloc (.cells #[.int .i64 3, .int .i64 2, .int .i64 3, .slice none 0 0, .slice (some ⟨b, 0, none⟩) 1 1, .slice none 0 0, .slice none 0 0, .int .i64 1, .int .i64 1, .int .i64 1, .int .i64 1, .int .i64 1, .int .i64 1, .int .i64 1, .int .i64 1, .bool true] 26) := ⟨_, rfl⟩
  have b2 : Below w1.heap.size w1 w2 := by rw [hw2]; exact below_new (Below.refl _ _) _
  have hcf : w2.heap[w1.heap.size]? = some (.cells #[.int .i64 3, .int .i64 2, .int .i64 3, .slice none 0 0, .slice (some ⟨b, 0, none⟩) 1 1, .slice none 0 0, .slice none 0 0, .int .i64 1, .int .i64 1, .int .i64 1, .int .i64 1, .int .i64 1, .int .i64 1, .int .i64 1, .int .i64 1, .bool true] 26 (0, 0)) := by rw [hw2]; exact heap_alloc_new w1 _
  have s2 : w2.heap.size = w1.heap.size + 1 := by rw [hw2]; simp
  rw [← hw2]
  have B2 := bcat b1 b2 (Nat.le_refl _)
  have lcb : w.heap.size ≤ w1.heap.size := b1.size
  obtain ⟨cb, hcbq⟩ : ∃ cb, w1.heap.size = cb := ⟨_, rfl⟩
  rw [hcbq] at hcf s2 lcb ⊢
  have q1 : w2.cell? ⟨cb, 0, none⟩ = some (.int .i64 3) := (cell_of hcf 0).trans rfl
  have q2 := frozenR hcf 0
  clear hw2 hcb hb b1 b2 hcbq
  go_upto_region 6 with fail
  obtain ⟨w3, hw3⟩ : ∃ w3, w3 = w2.setCell ⟨cb, 0, none⟩ (.int .i64 ((m : Int) + 2)) := ⟨_, rfl⟩
  have hc3 : w3.heap[cb]? = some (.cells #[.int .i64 ((m : Int) + 2), .int .i64 2, .int .i64 3, .slice none 0 0, .slice (some ⟨b, 0, none⟩) 1 1, .slice none 0 0, .slice none 0 0, .int .i64 1, .int .i64 1, .int .i64 1, .int .i64 1, .int .i64 1, .int .i64 1, .int .i64 1, .int .i64 1, .bool true] 26 (0, 0)) := by rw [hw3]; exact heap_setCell_same w2 cb 0 _ _ _ hcf
  have B3 : Below w.heap.size w w3 := by rw [hw3]; exact B2.grown (setc_grown w2 ⟨cb, 0, none⟩ _) B2.size (fun _ h => by cases h; exact lcb)
  have s3 : w3.heap.size = cb + 1 := by rw [hw3, ← s2]; simp
  rw [← hw3]
  clear hw3 q1 q2 hcf B2 s2
  have HS3 : Hid (cb < w3.heap.size) := by show _ < _; omega
  have HB3 : Hid (Below w.heap.size w w3) := B3
  have HZ : Hid (Bl w3.heap.size cb m b 0 (.slice none 0 0) w3) := ⟨hc3, World.ownsRow_nil _ _ _ _, Nat.le_refl _⟩
  clear B3 hc3 s3
  go_wp2_with fail
  go_loopw [8] (fun iv wq => ∃ (i : Nat) (bv : Value), i ≤ m + 1 ∧ iv = .int .i64 i ∧ Hid (Bl w3.heap.size cb m b i bv wq) ∧ Hid (Below w.heap.size w wq)) (fun iv _ => m + 1 - (intOf iv).toNat)
  case atStart => exact ⟨0, _, Nat.zero_le _, rfl, HZ, HB3⟩
  case round =>
    clear HZ HB3
    obtain ⟨i, bv, hi, rfl, HL, HB⟩ := hrel
    by_cases hlt : i < m + 1
    · have hd : decide ((i : Int) ≤ (m : Int)) = true := decide_eq_true (by omega)
      have hcl : wr.cell? ⟨cb, 3, none⟩ = some bv := (cell_of HL.out.conf 3).trans rfl
      have HLi : Hid ((blkR i).length = i) := blkR_len i
      go_wp2_with (at_builtin; have bA := (Below.refl wr.heap.size wr).alloc (Nat.le_refl _) (.cells #[.int .i64 (i : Int), .int .i64 1] 28); have O10 := owns_go HL.out.row bA; have L10 := list_one (f := cellL) (S := 2) wr ((i : Int), 1) 28 rfl; have e1 : ((blkR i).length + [(((i : Int), 1) : Cell)].length) * 16 ≤ 140737488355328 := (by have := HLi.out; simp only [List.length_cons, List.length_nil]; omega); have e2 : (blkR i).length + [(((i : Int), 1) : Cell)].length ≤ maxLen := (by have := HLi.out; unfold maxLen; simp only [List.length_cons, List.length_nil]; omega); have e3 := Nat.le_trans HL.out.size bA.size; refine wpList_app kindCell rfl (.tmp 33) (.tmp 36) rfl _ _ _ rfl O10 _ _ [(((i : Int), 1) : Cell)] rfl L10 e1 e2 e3 ?_; intro v11 w11 own11 g11 at11; rw [← blkR_succ] at own11; obtain ⟨va, vc, hv11, _⟩ := own_form own11; rw [blkR_len] at hv11; subst hv11; have hcf := HL.out.conf; have hcf11 : w11.heap[cb]? = some (.cells #[.int .i64 ((m : Int) + 2), .int .i64 2, .int .i64 3, bv, .slice (some ⟨b, 0, none⟩) 1 1, .slice none 0 0, .slice none 0 0, .int .i64 1, .int .i64 1, .int .i64 1, .int .i64 1, .int .i64 1, .int .i64 1, .int .i64 1, .int .i64 1, .bool true] 26 (0, 0)) := (g11.block _ (Nat.lt_of_lt_of_le (lt_of_heap hcf) bA.size) (fun e => by have := (O10.lt _ e.symm).1; have := HS3.out; omega)).trans ((bA.block _ (lt_of_heap hcf)).trans hcf); have z1 : w11.cell? ⟨cb, 3, none⟩ = some bv := (cell_of hcf11 3).trans rfl; have z2 := frozenR hcf11 3)
      go_roundw
      case rel =>
        have B11 : Below w.heap.size w w11 := (bcat HB.out bA (Nat.le_refl _)).grown g11 (bcat HB.out bA (Nat.le_refl _)).size (fun q e => by have := (O10.lt q e).1; have := HS3.out; omega)
        refine ⟨i + 1, _, by omega, by go_num, ⟨heap_setCell_same w11 cb 3 _ _ _ hcf11, ?_, ?_⟩, ?_⟩
        · exact owns_same own11 (fun q e => heap_setCell_other _ _ _ _ (by have := (own11.lt q e).1; have := HS3.out; simp only; omega))
        · have := g11.size; have := bA.size; have := HL.out.size; simp only [World.size_setCell]; omega
        · exact B11.grown (setc_grown w11 ⟨cb, 3, none⟩ _) B11.size (fun _ h => by cases h; exact lcb)
      case measure => simp only [intOf]; omega
    · have HIm : Hid (i = m + 1) := by show _ = _; omega
      have hd : decide ((i : Int) ≤ (m : Int)) = false := decide_eq_false (by omega)
      have hdn : ¬ ((i : Int) ≤ (m : Int)) := by omega
      have hcwr := HL.out.conf
      have Owr := HL.out.row
      rw [HIm.out] at Owr
      have Bwr := HB.out
      clear HL HB HIm
      have q1 : wr.cell? ⟨cb, 2, none⟩ = some (.int .i64 3) := (cell_of hcwr 2).trans rfl
      have q2 := frozenR hcwr 2
      go_upto_region 11 with fail
      obtain ⟨w4, hqw4⟩ : ∃ w4, w4 = wr.setCell ⟨cb, 2, none⟩ (.int .i64 h) := ⟨_, rfl⟩
      have hcw4 : w4.heap[cb]? = some (.cells #[.int .i64 ((m : Int) + 2), .int .i64 2, .int .i64 h, bv, .slice (some ⟨b, 0, none⟩) 1 1, .slice none 0 0, .slice none 0 0, .int .i64 1, .int .i64 1, .int .i64 1, .int .i64 1, .int .i64 1, .int .i64 1, .int .i64 1, .int .i64 1, .bool true] 26 (0, 0)) := by rw [hqw4]; exact heap_setCell_same wr cb 2 _ _ _ hcwr
      have Ow4 : w4.ownsRow w3.heap.size 28 2 bv (blkR (m + 1)).length (rowL cellL (blkR (m + 1))) := by rw [hqw4]; exact owns_same Owr (fun q e => heap_setCell_other _ _ _ _ (by have := (Owr.lt q e).1; have := HS3.out; simp only; omega))
      have Bw4 : Below w.heap.size w w4 := by rw [hqw4]; exact Bwr.grown (setc_grown wr ⟨cb, 2, none⟩ _) Bwr.size (fun _ h => by cases h; exact lcb)
      rw [← hqw4]
      clear hqw4 q1 q2 Bwr Owr hcwr
      have q1 : w4.cell? ⟨cb, 15, none⟩ = some (.bool true) := (cell_of hcw4 15).trans rfl
      have q2 := frozenR hcw4 15
      go_upto_region 12 with fail
      obtain ⟨w5, hqw5⟩ : ∃ w5, w5 = w4.setCell ⟨cb, 15, none⟩ (.bool false) := ⟨_, rfl⟩
      have hcw5 : w5.heap[cb]? = some (.cells #[.int .i64 ((m : Int) + 2), .int .i64 2, .int .i64 h, bv, .slice (some ⟨b, 0, none⟩) 1 1, .slice none 0 0, .slice none 0 0, .int .i64 1, .int .i64 1, .int .i64 1, .int .i64 1, .int .i64 1, .int .i64 1, .int .i64 1, .int .i64 1, .bool false] 26 (0, 0)) := by rw [hqw5]; exact heap_setCell_same w4 cb 15 _ _ _ hcw4
      have Ow5 : w5.ownsRow w3.heap.size 28 2 bv (blkR (m + 1)).length (rowL cellL (blkR (m + 1))) := by rw [hqw5]; exact owns_same Ow4 (fun q e => heap_setCell_other _ _ _ _ (by have := (Ow4.lt q e).1; have := HS3.out; simp only; omega))
      have Bw5 : Below w.heap.size w w5 := by rw [hqw5]; exact Bw4.grown (setc_grown w4 ⟨cb, 15, none⟩ _) Bw4.size (fun _ h => by cases h; exact lcb)
      rw [← hqw5]
      clear hqw5 q1 q2 Bw4 Ow4 hcw4
      have q0 := frozenR hcw5 4
      have q00 : w5.cell? ⟨cb, 4, none⟩ = some (.slice (some ⟨b, 0, none⟩) 1 1) := (cell_of hcw5 4).trans rfl
      have lpb := lt_of_heap hcw5
      have q1 : (w5.alloc (.cells #[.int .i64 ((m : Int) + 1), .int .i64 0] 28)).cell? ⟨cb, 4, none⟩ = some (.slice (some ⟨b, 0, none⟩) 1 1) := (cell_of ((alloc_old _ _ _ lpb).trans hcw5) 4).trans rfl
      have q2 : (w5.alloc (.cells #[.int .i64 ((m : Int) + 1), .int .i64 0] 28)).frozen? ⟨cb, 4, none⟩ = false := frozenR ((alloc_old _ _ _ lpb).trans hcw5) 4
      go_upto_region 13 with fail
      obtain ⟨pb, hpb⟩ : ∃ pb, w5.heap.size = pb := ⟨_, rfl⟩
      obtain ⟨w6, hw6⟩ : ∃ w6, w6 = w5.setCell ⟨cb, 4, none⟩ (.slice (some ⟨pb, 0, none⟩) 1 1) := ⟨_, rfl⟩
      rw [hpb, ← hw6]
      obtain ⟨w7, hw7⟩ : ∃ w7, w7 = w6.alloc (.cells #[.int .i64 ((m : Int) + 1), .int .i64 0] 28) := ⟨_, rfl⟩
      rw [← hw7]
      rw [hpb] at lpb
      have s6 : w6.heap.size = pb := by rw [hw6, ← hpb]; simp
      have hcw6 : w6.heap[cb]? = some (.cells #[.int .i64 ((m : Int) + 2), .int .i64 2, .int .i64 h, bv, .slice (some ⟨pb, 0, none⟩) 1 1, .slice none 0 0, .slice none 0 0, .int .i64 1, .int .i64 1, .int .i64 1, .int .i64 1, .int .i64 1, .int .i64 1, .int .i64 1, .int .i64 1, .bool false] 26 (0, 0)) := by rw [hw6]; exact heap_setCell_same w5 cb 4 _ _ _ hcw5
      have Ow6 : w6.ownsRow w3.heap.size 28 2 bv (blkR (m + 1)).length (rowL cellL (blkR (m + 1))) := by rw [hw6]; exact owns_same Ow5 (fun q e => heap_setCell_other _ _ _ _ (by have := (Ow5.lt q e).1; have := HS3.out; simp only; omega))
      have Bw6 : Below w.heap.size w w6 := by rw [hw6]; exact Bw5.grown (setc_grown w5 ⟨cb, 4, none⟩ _) Bw5.size (fun _ h => by cases h; exact lcb)
      have b7 : Below w6.heap.size w6 w7 := by rw [hw7]; exact below_new (Below.refl _ _) _
      have hc7 : w7.heap[cb]? = some (.cells #[.int .i64 ((m : Int) + 2), .int .i64 2, .int .i64 h, bv, .slice (some ⟨pb, 0, none⟩) 1 1, .slice none 0 0, .slice none 0 0, .int .i64 1, .int .i64 1, .int .i64 1, .int .i64 1, .int .i64 1, .int .i64 1, .int .i64 1, .int .i64 1, .bool false] 26 (0, 0)) := (b7.block _ (lt_of_heap hcw6)).trans hcw6
      have O7 : w7.ownsRow w3.heap.size 28 2 bv (blkR (m + 1)).length (rowL cellL (blkR (m + 1))) := owns_go Ow6 b7
      have hp7 : w7.heap[pb]? = some (.cells #[.int .i64 ((m : Int) + 1), .int .i64 0] 28 (0, 0)) := by rw [hw7, ← s6]; exact heap_alloc_new w6 _
      have B7 : Below w.heap.size w w7 := bcat Bw6 b7 (Nat.le_refl _)
      have HK : Hid (Kp w7 cb pb m h bv w3.heap.size) := ⟨hc7, hp7, O7⟩
      have HB7 : Hid (Below w.heap.size w w7) := B7
      have HI0 : Hid (w7.ownsRow w7.heap.size 3 1 (.slice none 0 0) (binsR 0).length (rowL intL (binsR 0))) := World.ownsRow_nil _ _ _ _
      have HZ7 : Hid (Below w7.heap.size w7 w7) := Below.refl _ _
      clear hw6 hw7 q0 q00 q1 q2 b7 hcw5 hcw6 Ow5 Ow6 Bw5 Bw6 hc7 O7 hp7 B7 hpb lpb s6 hd
      go_wp2_with fail
      go_loopw [9, 10] (fun xv iv wq => ∃ i : Nat, i ≤ h ∧ iv = .int .i64 i ∧ Hid (wq.ownsRow w7.heap.size 3 1 xv (binsR i).length (rowL intL (binsR i))) ∧ Hid (Below w7.heap.size w7 wq)) (fun _ iv _ => h - (intOf iv).toNat)
      case atStart => exact ⟨0, Nat.zero_le _, rfl, HI0, HZ7⟩
      case round =>
        clear HI0 HZ7
        obtain ⟨i, hi, rfl, HO, HBi⟩ := hrel
        by_cases hlt : i < h
        · have hd : decide ((i : Int) < (h : Int)) = true := decide_eq_true (by omega)
          have HLi : Hid ((binsR i).length = i) := binsR_len i
          go_wp2_with (at_builtin; have bA := (Below.refl wr.heap.size wr).alloc (Nat.le_refl _) (.cells #[.int .i64 (100 + (i : Int))] 3); have O10 := owns_go HO.out bA; have L10 := list_one (f := intL) (S := 1) wr (100 + (i : Int)) 3 rfl; have e1 : ((binsR i).length + [100 + (i : Int)].length) * 8 ≤ 140737488355328 := (by have := HLi.out; simp only [List.length_cons, List.length_nil]; omega); have e2 : (binsR i).length + [100 + (i : Int)].length ≤ maxLen := (by have := HLi.out; unfold maxLen; simp only [List.length_cons, List.length_nil]; omega); have e3 := Nat.le_trans HBi.out.size bA.size; refine wpList_app kindInt rfl (.tmp 52) (.tmp 55) rfl _ _ _ rfl O10 _ _ [100 + (i : Int)] rfl L10 e1 e2 e3 ?_; intro v11 w11 own11 g11 at11)
          go_roundw
          case rel =>
            refine ⟨i + 1, by omega, by go_num, ?_, ?_⟩
            · rw [binsR_succ]; exact own11
            · exact (bcat HBi.out bA (Nat.le_refl _)).grown g11 (bcat HBi.out bA (Nat.le_refl _)).size (fun q e => (O10.lt q e).1)
          case measure => simp only [intOf]; omega
        · obtain rfl : h = i := by omega
          have hd : decide ((h : Int) < (h : Int)) = false := decide_eq_false (by omega)
          have HLh : Hid ((binsR h).length = h) := binsR_len h
          obtain ⟨xa, xc, hxv, _, hxc, _⟩ := own_form HO.out
          rw [HLh.out] at hxv hxc
          subst hxv
          have hI := list_of_own kindInt.len HO.out
          have hc := HK.out.conf
          have hcr := (HBi.out.block _ (lt_of_heap hc)).trans hc
          have hp := HK.out.port
          have hpr := (HBi.out.block _ (lt_of_heap hp)).trans hp
          have hrw := owns_go HK.out.row HBi.out
          have hBk := list_of_own kindCell.len hrw
          have HCr : Hid (∀ u, Below wr.heap.size wr u → ∀ j z, #[.int .i64 ((m : Int) + 2), .int .i64 2, .int .i64 h, bv, .slice (some ⟨pb, 0, none⟩) 1 1, .slice none 0 0, .slice none 0 0, .int .i64 1, .int .i64 1, .int .i64 1, .int .i64 1, .int .i64 1, .int .i64 1, .int .i64 1, .int .i64 1, .bool false][j]? = some z → u.cell? ((⟨cb, 0, none⟩ : Addr).add j) = some z) := fun u hu => row_below hcr hu
          have HC4 : Hid (∀ u, Below wr.heap.size wr u → u.cell? ⟨cb, 4, none⟩ = some (.slice (some ⟨pb, 0, none⟩) 1 1)) := fun u hu => cell_below ((cell_of hcr 4).trans rfl) hu
          have HPr : Hid (∀ u, Below wr.heap.size wr u → ∀ j z, #[.int .i64 ((m : Int) + 1), .int .i64 0][j]? = some z → u.cell? ((⟨pb, 0, none⟩ : Addr).add j) = some z) := fun u hu => row_below hpr hu
          have HPb : Hid (∀ u, Below wr.heap.size wr u → u.heap[pb]? = some (.cells #[.int .i64 ((m : Int) + 1), .int .i64 0] 28 (0, 0))) := fun u hu => (hu.block _ (lt_of_heap hpr)).trans hpr
          have HIw : Hid (∀ u, Below wr.heap.size wr u → ListAt 1 intEl (Since w7.heap.size wr) (binsR h) (.slice xa h xc) u) := fun u hu => hI.go heldInt (fun q h => h.2) hu
          have HBk : Hid (∀ u, Below wr.heap.size wr u → ListAt 2 cellEl (Since w3.heap.size wr) (blkR (m + 1)) bv u) := fun u hu => hBk.go heldCell (fun q h => h.2) hu
          have HBr : Hid (Below w.heap.size w wr) := bcat HB7.out HBi.out (Nat.le_refl _)
          clear hI hc hcr hp hpr hrw hBk HO HBi HK HB7
          go_upto_region 18 with fail
          clear hd
          have hw1 : IntKind.i64.wrap (100 + (h : Int)) = 100 + (h : Int) := by rw [IntKind.wrap_i64]; omega
          have hw2 : IntKind.i64.wrap (100 + (h : Int) - 1) = 100 + (h : Int) - 1 := by rw [IntKind.wrap_i64]; omega
          have hw3 : IntKind.i64.wrap (100 + (h : Int) - 1 - (k : Int)) = 100 + (h : Int) - 1 - (k : Int) := by rw [IntKind.wrap_i64]; omega
          obtain ⟨x0, hx0⟩ : ∃ x0, wr.drew = x0 := ⟨_, rfl⟩
          have S0 : Below wr.heap.size wr x0 := by rw [← hx0]; exact (Below.refl _ _).drew
          refine start_held (S := fun u => Below wr.heap.size wr u) 19 rfl (by kernel_rfl) (by rw [hx0]; exact S0) ?_
          rw [hx0]
          clear hx0
          simp only [Array.replicate_succ, Array.replicate_zero, List.push_toArray, List.nil_append, List.cons_append]
          refine take_held 0 S0 rfl (by kernel_rfl) (by kernel_rfl) (by kernel_rfl) (fun _ _ _ h => h) (by kernel_rfl) (v := .agg #[.int .i64 ((m : Int) + 2), .int .i64 2, .int .i64 h, bv, .slice (some ⟨pb, 0, none⟩) 1 1, .slice none 0 0, .slice none 0 0, .int .i64 1, .int .i64 1, .int .i64 1, .int .i64 1, .int .i64 1, .int .i64 1, .int .i64 1, .int .i64 1, .bool false]) ?y500 ?r500
          case y500 => (intro u hu; exact run_load_op 26 _ rfl ⟨cb, 0, none⟩ _ rfl (HCr.out u hu) (aggConf u) info_conf)
          simp only [Act.put, List.setIfInBounds_toArray, List.set_cons_zero, List.set_cons_succ]
          refine take_held 1 S0 rfl (by kernel_rfl) (by kernel_rfl) (by kernel_rfl) (fun _ _ _ h => h) (by kernel_rfl) (v := ?v501) ?y501 ?r501
          case y501 => (intro u hu; go_simp; try rfl)
          simp only [Act.put, List.setIfInBounds_toArray, List.set_cons_zero, List.set_cons_succ]
          refine take_held 2 S0 rfl (by kernel_rfl) (by kernel_rfl) (by kernel_rfl) (fun _ _ _ h => h) (by kernel_rfl) (v := .agg #[.int .i64 0, .int .i64 0, .slice xa h xc]) ?y502 ?r502
          case y502 => (intro u hu; go_simp; try rfl)
          simp only [Act.put, List.setIfInBounds_toArray, List.set_cons_zero, List.set_cons_succ]
          refine take_held 4 S0 rfl (by kernel_rfl) (by kernel_rfl) (by kernel_rfl) (fun _ _ _ h => h) (by kernel_rfl) (v := ?v503) ?y503 ?r503
          case y503 => (intro u hu; go_simp; try rfl)
          simp only [Act.put, List.setIfInBounds_toArray, List.set_cons_zero, List.set_cons_succ]
          refine take_held 5 S0 rfl (by kernel_rfl) (by kernel_rfl) (by kernel_rfl) (fun _ _ _ h => h) (by kernel_rfl) (v := ?v504) ?y504 ?r504
          case y504 => (intro u hu; go_simp; try rfl)
          simp only [Act.put, List.setIfInBounds_toArray, List.set_cons_zero, List.set_cons_succ]
          refine take_held 6 S0 rfl (by kernel_rfl) (by kernel_rfl) (by kernel_rfl) (fun _ _ _ h => h) (by kernel_rfl) (v := ?v505) ?y505 ?r505
          case y505 => (intro u hu; go_simp; try rfl)
          simp only [Act.put, List.setIfInBounds_toArray, List.set_cons_zero, List.set_cons_succ]
          refine take_held 7 S0 rfl (by kernel_rfl) (by kernel_rfl) (by kernel_rfl) (fun _ _ _ h => h) (by kernel_rfl) (v := ?v506) ?y506 ?r506
          case y506 => (intro u hu; go_simp; try rfl)
          simp only [Act.put, List.setIfInBounds_toArray, List.set_cons_zero, List.set_cons_succ]
          refine take_held 8 S0 rfl (by kernel_rfl) (by kernel_rfl) (by kernel_rfl) (fun _ _ _ h => h) (by kernel_rfl) (v := .int .i64 (100 + (h : Int) - 1 - (k : Int))) ?y507 ?r507
          case y507 => (intro u hu; go_simp; try rfl)
          simp only [Act.put, List.setIfInBounds_toArray, List.set_cons_zero, List.set_cons_succ]
          refine take_held 9 S0 rfl (by kernel_rfl) (by kernel_rfl) (by kernel_rfl) (fun _ _ _ h => h) (by kernel_rfl) (v := ?v508) ?y508 ?r508
          case y508 => (intro u hu; go_simp; try rfl)
          simp only [Act.put, List.setIfInBounds_toArray, List.set_cons_zero, List.set_cons_succ]
          refine take_held 10 S0 rfl (by kernel_rfl) (by kernel_rfl) (by kernel_rfl) (fun _ _ _ h => h) (by kernel_rfl) (v := .slice (some ⟨pb, 0, none⟩) 1 1) ?y509 ?r509
          case y509 => (intro u hu; have zz := HC4.out u hu; go_simp; try rfl)
          simp only [Act.put, List.setIfInBounds_toArray, List.set_cons_zero, List.set_cons_succ]
          refine take_held 11 S0 rfl (by kernel_rfl) (by kernel_rfl) (by kernel_rfl) (fun _ _ _ h => h) (by kernel_rfl) (v := ?v510) ?y510 ?r510
          case y510 => (intro u hu; go_simp; try rfl)
          simp only [Act.put, List.setIfInBounds_toArray, List.set_cons_zero, List.set_cons_succ]
          refine take_held 12 S0 rfl (by kernel_rfl) (by kernel_rfl) (by kernel_rfl) (fun _ _ _ h => h) (by kernel_rfl) (v := .agg #[.int .i64 ((m : Int) + 1), .int .i64 0]) ?y511 ?r511
          case y511 => (intro u hu; exact run_load_op 28 _ rfl ⟨pb, 0, none⟩ _ rfl (HPr.out u hu) (aggCell u) infoCell2)
          simp only [Act.put, List.setIfInBounds_toArray, List.set_cons_zero, List.set_cons_succ]
          refine wpAnyH_ready (rs := [3]) (by kernel_rfl) (by simp) (AllReadyH.cons ((nth_eq _ 3).trans rfl) ?_ AllReadyH.nil)
          intro K1 hK1
          obtain ⟨x1, hx1⟩ : ∃ x1, x1 = x0.alloc (.cells #[.int .i64 0, .int .i64 0, .slice xa h xc] 49) := ⟨_, rfl⟩
          have b1 : Below x0.heap.size x0 x1 := by rw [hx1]; exact below_new (Below.refl _ _) _
          have hs1 : x1.heap[x0.heap.size]? = some (.cells #[.int .i64 0, .int .i64 0, .slice xa h xc] 49 (0, 0)) := by rw [hx1]; exact heap_alloc_new x0 _
          have S1 : Below wr.heap.size wr x1 := bcat S0 b1 (Nat.le_refl _)
          refine value_in hK1 (by kernel_rfl) (.slice (some ⟨x0.heap.size, 0, none⟩) 1 1) x1 (by rw [hx1]; go_simp; try rfl) S1 ?_
          clear hx1
          obtain ⟨sb, hsb⟩ : ∃ sb, x0.heap.size = sb := ⟨_, rfl⟩
          rw [hsb] at hs1 ⊢
          clear hsb
          simp only [Act.put, List.setIfInBounds_toArray, List.set_cons_zero, List.set_cons_succ]
          refine wpAnyH_ready (rs := [13]) (by kernel_rfl) (by simp) (AllReadyH.cons ((nth_eq _ 13).trans rfl) ?_ AllReadyH.nil)
          intro K2 hK2
          refine call_in hK2 (by kernel_rfl) 8 #[.agg #[.int .i64 ((m : Int) + 2), .int .i64 2, .int .i64 h, bv, .slice (some ⟨pb, 0, none⟩) 1 1, .slice none 0 0, .slice none 0 0, .int .i64 1, .int .i64 1, .int .i64 1, .int .i64 1, .int .i64 1, .int .i64 1, .int .i64 1, .int .i64 1, .bool false], .slice (some ⟨sb, 0, none⟩) 1 1, .slice none 0 0, .int .i64 (100 + (h : Int) - 1 - (k : Int)), .agg #[.int .i64 ((m : Int) + 1), .int .i64 0]] (by go_simp) _ (jobsR_any bm.1 bm.2 bh.1 bh.2 bk bv pb sb xa xc x1 _ _ (HBk.out _ S1) (fun q h => Nat.lt_of_lt_of_le h.2 S1.size) (HPb.out _ S1) (HIw.out _ S1) (fun q h => Nat.lt_of_lt_of_le h.2 S1.size) hxc hs1) ?_
          rintro rj x2 ⟨⟨ja, jc, rfl, hja, hji, hjk⟩, b2⟩
          have S2 : Below wr.heap.size wr x2 := bcat S1 b2 (Nat.le_refl _)
          refine ⟨S2, ?_⟩
          simp only [Act.put, List.setIfInBounds_toArray, List.set_cons_zero, List.set_cons_succ]
          refine take_held 14 S2 rfl (by kernel_rfl) (by kernel_rfl) (by kernel_rfl) (fun _ _ _ h => h) (by kernel_rfl) (v := ?v512) ?y512 ?r512
          case y512 => (intro u hu; go_simp; try rfl)
          simp only [Act.put, List.setIfInBounds_toArray, List.set_cons_zero, List.set_cons_succ]
          refine take_held 15 S2 rfl (by kernel_rfl) (by kernel_rfl) (by kernel_rfl) (fun _ _ _ h => h) (by kernel_rfl) (v := ?v513) ?y513 ?r513
          case y513 => (intro u hu; go_simp; try rfl)
          simp only [Act.put, List.setIfInBounds_toArray, List.set_cons_zero, List.set_cons_succ]
          refine take_held 16 S2 rfl (by kernel_rfl) (by kernel_rfl) (by kernel_rfl) (fun _ _ _ h => h) (by kernel_rfl) (v := ?v514) ?y514 ?r514
          case y514 => (intro u hu; go_simp; try rfl)
          simp only [Act.put, List.setIfInBounds_toArray, List.set_cons_zero, List.set_cons_succ]
          refine take_held 17 S2 rfl (by kernel_rfl) (by kernel_rfl) (by kernel_rfl) (fun _ _ _ h => h) (by kernel_rfl) (v := ?v515) ?y515 ?r515
          case y515 => (intro u hu; go_simp; try rfl)
          simp only [Act.put, List.setIfInBounds_toArray, List.set_cons_zero, List.set_cons_succ]
          refine take_held 18 S2 rfl (by kernel_rfl) (by kernel_rfl) (by kernel_rfl) (fun _ _ _ h => h) (by kernel_rfl) (v := ?v516) ?y516 ?r516
          case y516 => (intro u hu; go_simp; try rfl)
          simp only [Act.put, List.setIfInBounds_toArray, List.set_cons_zero, List.set_cons_succ]
          refine done_held (by kernel_rfl) ?_ _
          have HB2 : Hid (Below w.heap.size w x2) := bcat HBr.out S2 (Nat.le_refl _)
          have HJi : Hid (∀ i, i < k → ∀ u, Below x2.heap.size x2 u → u.cell? ((ja.add (i * 9)).add 1) = some (.int .i64 1) ∧ u.cell? ((ja.add (i * 9)).add 3) = some (.int .i64 (100 + (h : Int) - 1 - i)) ∧ ∀ j z, #[Value.int .i64 1, .int .i64 0][j]? = some z → u.cell? (((ja.add (i * 9)).add 6).add j) = some z) := fun i hi u hu => by
            obtain ⟨g1, g2, g3⟩ := hji i hi
            exact ⟨(cell_same (by rw [block_add, block_add]; exact hu.block _ hja)).trans g1, (cell_same (by rw [block_add, block_add]; exact hu.block _ hja)).trans g2, fun j z hz => (cell_same (by rw [block_add, block_add, block_add]; exact hu.block _ hja)).trans (g3 j z hz)⟩
          have HJk : Hid (∀ u, Below x2.heap.size x2 u → u.cell? ((ja.add (k * 9)).add 1) = some (.int .i64 2)) := fun u hu => (cell_same (by rw [block_add, block_add]; exact hu.block _ hja)).trans hjk
          have HZ2 : Hid (Below x2.heap.size x2 x2) := Below.refl _ _
          obtain ⟨mh, hmh⟩ : ∃ mh : Nat, (m : Int) * (h : Int) = (mh : Int) := ⟨m * h, by simp⟩
          have bmh : h ≤ mh ∧ mh ≤ 64 := by
            have e : mh = m * h := by have : ((m * h : Nat) : Int) = (mh : Int) := by rw [← hmh]; simp
                                      omega
            have u1 : 1 * h ≤ m * h := Nat.mul_le_mul_right _ bm.1
            have u2 : m * h ≤ 8 * 8 := Nat.mul_le_mul bm.2 bh.2
            omega
          have hd19 : decide ((mh : Int) < (k : Int)) = false := decide_eq_false (by omega)
          have hwm : IntKind.i64.wrap ((m : Int) * (h : Int)) = (mh : Int) := by rw [hmh, IntKind.wrap_i64]; omega
          have hkk : ((k + 1 : Nat) : Int) = (k : Int) + 1 := by omega
          clear S0 S1 S2 hs1 b1 b2 hja hji hjk HCr HC4 HPr HPb HIw HBk HBr hK1 hK2 K1 K2 hxc
          go_upto_region 23 with fail
          clear hd19 hwm hmh bmh
          go_wp2_with fail
          go_loopw [13] (fun iv wq => ∃ i : Nat, i ≤ k ∧ iv = .int .i64 i ∧ Hid (Below x2.heap.size x2 wq)) (fun iv _ => k - (intOf iv).toNat)
          case atStart => exact ⟨0, Nat.zero_le _, rfl, HZ2⟩
          case round =>
            clear HZ2
            obtain ⟨i, hi, rfl, HBq⟩ := hrel
            by_cases hlt : i < k
            · have hd : decide ((i : Int) < (k : Int)) = true := decide_eq_true (by omega)
              have HJb := fun u hu => HJi.out i hlt u hu
              have HJc : Hid (∀ u, Below x2.heap.size x2 u → u.cell? ((ja.add (i * 9)).add 1) = some (.int .i64 1) ∧ u.cell? ((ja.add (i * 9)).add 3) = some (.int .i64 (100 + (h : Int) - 1 - i)) ∧ ∀ j z, #[Value.int .i64 1, .int .i64 0][j]? = some z → u.cell? (((ja.add (i * 9)).add 6).add j) = some z) := HJb
              have hik : (i : Int) < (k : Int) + 1 := by omega
              have hw4 : IntKind.i64.wrap (100 + (h : Int) - 1 - (i : Int)) = 100 + (h : Int) - 1 - (i : Int) := by rw [IntKind.wrap_i64]; omega
              have hdv : Int.tdiv (i : Int) (h : Int) = 0 := Int.tdiv_eq_zero_of_lt (by omega) (by omega)
              have hh0 : ((h : Int) == 0) = false := by simp; omega
              clear HJb
              go_upto_region 26 with fail
              clear hd
              have T0 : Below x2.heap.size x2 wr.drew := bcat HBq.out (Below.refl _ _).drew (Nat.le_refl _)
              refine start_held (S := fun u => Below x2.heap.size x2 u) 32 rfl (by kernel_rfl) (T0) ?_
              simp only [Array.replicate_succ, Array.replicate_zero, List.push_toArray, List.nil_append, List.cons_append]
              refine take_held 0 T0 rfl (by kernel_rfl) (by kernel_rfl) (by kernel_rfl) (fun _ _ _ h => h) (by kernel_rfl) (v := ?v0) ?y0 ?r0
              case y0 => (intro u hu; go_simp; try rfl)
              simp only [Act.put, List.setIfInBounds_toArray, List.set_cons_zero, List.set_cons_succ]
              refine take_held 1 T0 rfl (by kernel_rfl) (by kernel_rfl) (by kernel_rfl) (fun _ _ _ h => h) (by kernel_rfl) (v := ?v1) ?y1 ?r1
              case y1 => (intro u hu; go_simp; try rfl)
              simp only [Act.put, List.setIfInBounds_toArray, List.set_cons_zero, List.set_cons_succ]
              refine take_held 2 T0 rfl (by kernel_rfl) (by kernel_rfl) (by kernel_rfl) (fun _ _ _ h => h) (by kernel_rfl) (v := ?v2) ?y2 ?r2
              case y2 => (intro u hu; go_simp; try rfl)
              simp only [Act.put, List.setIfInBounds_toArray, List.set_cons_zero, List.set_cons_succ]
              refine take_held 3 T0 rfl (by kernel_rfl) (by kernel_rfl) (by kernel_rfl) (fun _ _ _ h => h) (by kernel_rfl) (v := ?v3) ?y3 ?r3
              case y3 => (intro u hu; go_simp; try rfl)
              simp only [Act.put, List.setIfInBounds_toArray, List.set_cons_zero, List.set_cons_succ]
              refine take_held 4 T0 rfl (by kernel_rfl) (by kernel_rfl) (by kernel_rfl) (fun _ _ _ h => h) (by kernel_rfl) (v := .agg #[.int .i64 1, .int .i64 0]) ?y4 ?r4
              case y4 => (intro u hu; exact run_load_op 28 _ rfl ((ja.add (i * 9)).add 6) _ rfl ((HJc.out u hu).2.2) (aggCell u) infoCell2)
              simp only [Act.put, List.setIfInBounds_toArray, List.set_cons_zero, List.set_cons_succ]
              refine take_held 5 T0 rfl (by kernel_rfl) (by kernel_rfl) (by kernel_rfl) (fun _ _ _ h => h) (by kernel_rfl) (v := ?v5) ?y5 ?r5
              case y5 => (intro u hu; go_simp; try rfl)
              simp only [Act.put, List.setIfInBounds_toArray, List.set_cons_zero, List.set_cons_succ]
              refine take_held 6 T0 rfl (by kernel_rfl) (by kernel_rfl) (by kernel_rfl) (fun _ _ _ h => h) (by kernel_rfl) (v := ?v6) ?y6 ?r6
              case y6 => (intro u hu; go_simp; try rfl)
              simp only [Act.put, List.setIfInBounds_toArray, List.set_cons_zero, List.set_cons_succ]
              refine take_held 7 T0 rfl (by kernel_rfl) (by kernel_rfl) (by kernel_rfl) (fun _ _ _ h => h) (by kernel_rfl) (v := .int .i64 0) ?y7 ?r7
              case y7 => (intro u hu; have hz : ¬ h = 0 := (by omega); go_simp; first | rfl | (rw [if_neg hz]; rfl))
              simp only [Act.put, List.setIfInBounds_toArray, List.set_cons_zero, List.set_cons_succ]
              refine take_held 8 T0 rfl (by kernel_rfl) (by kernel_rfl) (by kernel_rfl) (fun _ _ _ h => h) (by kernel_rfl) (v := ?v8) ?y8 ?r8
              case y8 => (intro u hu; go_simp; try rfl)
              simp only [Act.put, List.setIfInBounds_toArray, List.set_cons_zero, List.set_cons_succ]
              refine take_held 9 T0 rfl (by kernel_rfl) (by kernel_rfl) (by kernel_rfl) (fun _ _ _ h => h) (by kernel_rfl) (v := .agg #[.int .i64 1, .int .i64 0]) ?y9 ?r9
              case y9 => (intro u hu; go_simp; try rfl)
              simp only [Act.put, List.setIfInBounds_toArray, List.set_cons_zero, List.set_cons_succ]
              refine take_held 10 T0 rfl (by kernel_rfl) (by kernel_rfl) (by kernel_rfl) (fun _ _ _ h => h) (by kernel_rfl) (v := .bool false) ?y10 ?r10
              case y10 => (intro u hu; exact (run_neq_cell (.tmp 107) (.tmp 112) rfl 1 0 1 0 rfl rfl).trans (by simp))
              simp only [Act.put, List.setIfInBounds_toArray, List.set_cons_zero, List.set_cons_succ]
              refine take_held 11 T0 rfl (by kernel_rfl) (by kernel_rfl) (by kernel_rfl) (fun _ _ _ h => h) (by kernel_rfl) (v := ?v11) ?y11 ?r11
              case y11 => (intro u hu; go_simp; try rfl)
              simp only [Act.put, List.setIfInBounds_toArray, List.set_cons_zero, List.set_cons_succ]
              refine take_held 12 T0 rfl (by kernel_rfl) (by kernel_rfl) (by kernel_rfl) (fun _ _ _ h => h) (by kernel_rfl) (v := ?v12) ?y12 ?r12
              case y12 => (intro u hu; go_simp; try rfl)
              simp only [Act.put, List.setIfInBounds_toArray, List.set_cons_zero, List.set_cons_succ]
              refine take_held 13 T0 rfl (by kernel_rfl) (by kernel_rfl) (by kernel_rfl) (fun _ _ _ h => h) (by kernel_rfl) (v := ?v13) ?y13 ?r13
              case y13 => (intro u hu; go_simp; try rfl)
              simp only [Act.put, List.setIfInBounds_toArray, List.set_cons_zero, List.set_cons_succ]
              refine take_held 14 T0 rfl (by kernel_rfl) (by kernel_rfl) (by kernel_rfl) (fun _ _ _ h => h) (by kernel_rfl) (v := ?v14) ?y14 ?r14
              case y14 => (intro u hu; go_simp; try rfl)
              simp only [Act.put, List.setIfInBounds_toArray, List.set_cons_zero, List.set_cons_succ]
              refine take_held 15 T0 rfl (by kernel_rfl) (by kernel_rfl) (by kernel_rfl) (fun _ _ _ h => h) (by kernel_rfl) (v := ?v15) ?y15 ?r15
              case y15 => (intro u hu; go_simp; try rfl)
              simp only [Act.put, List.setIfInBounds_toArray, List.set_cons_zero, List.set_cons_succ]
              refine take_held 16 T0 rfl (by kernel_rfl) (by kernel_rfl) (by kernel_rfl) (fun _ _ _ h => h) (by kernel_rfl) (v := ?v16) ?y16 ?r16
              case y16 => (intro u hu; have zz0 := (show u.cell? ⟨(ja.add (i * 9)).block, (ja.add (i * 9)).off + 3, none⟩ = some (.int .i64 (100 + (h : Int) - 1 - i)) from (HJc.out u hu).2.1); go_simp; try rfl)
              simp only [Act.put, List.setIfInBounds_toArray, List.set_cons_zero, List.set_cons_succ]
              refine take_held 17 T0 rfl (by kernel_rfl) (by kernel_rfl) (by kernel_rfl) (fun _ _ _ h => h) (by kernel_rfl) (v := ?v17) ?y17 ?r17
              case y17 => (intro u hu; go_simp; try rfl)
              simp only [Act.put, List.setIfInBounds_toArray, List.set_cons_zero, List.set_cons_succ]
              refine take_held 18 T0 rfl (by kernel_rfl) (by kernel_rfl) (by kernel_rfl) (fun _ _ _ h => h) (by kernel_rfl) (v := ?v18) ?y18 ?r18
              case y18 => (intro u hu; go_simp; try rfl)
              simp only [Act.put, List.setIfInBounds_toArray, List.set_cons_zero, List.set_cons_succ]
              refine take_held 19 T0 rfl (by kernel_rfl) (by kernel_rfl) (by kernel_rfl) (fun _ _ _ h => h) (by kernel_rfl) (v := ?v19) ?y19 ?r19
              case y19 => (intro u hu; go_simp; try rfl)
              simp only [Act.put, List.setIfInBounds_toArray, List.set_cons_zero, List.set_cons_succ]
              refine take_held 20 T0 rfl (by kernel_rfl) (by kernel_rfl) (by kernel_rfl) (fun _ _ _ h => h) (by kernel_rfl) (v := ?v20) ?y20 ?r20
              case y20 => (intro u hu; go_simp; try rfl)
              simp only [Act.put, List.setIfInBounds_toArray, List.set_cons_zero, List.set_cons_succ]
              refine take_held 21 T0 rfl (by kernel_rfl) (by kernel_rfl) (by kernel_rfl) (fun _ _ _ h => h) (by kernel_rfl) (v := ?v21) ?y21 ?r21
              case y21 => (intro u hu; go_simp; try rfl)
              simp only [Act.put, List.setIfInBounds_toArray, List.set_cons_zero, List.set_cons_succ]
              refine take_held 22 T0 rfl (by kernel_rfl) (by kernel_rfl) (by kernel_rfl) (fun _ _ _ h => h) (by kernel_rfl) (v := ?v22) ?y22 ?r22
              case y22 => (intro u hu; go_simp; try rfl)
              simp only [Act.put, List.setIfInBounds_toArray, List.set_cons_zero, List.set_cons_succ]
              refine take_held 23 T0 rfl (by kernel_rfl) (by kernel_rfl) (by kernel_rfl) (fun _ _ _ h => h) (by kernel_rfl) (v := ?v23) ?y23 ?r23
              case y23 => (intro u hu; go_simp; try rfl)
              simp only [Act.put, List.setIfInBounds_toArray, List.set_cons_zero, List.set_cons_succ]
              refine take_held 24 T0 rfl (by kernel_rfl) (by kernel_rfl) (by kernel_rfl) (fun _ _ _ h => h) (by kernel_rfl) (v := ?v24) ?y24 ?r24
              case y24 => (intro u hu; go_simp; try rfl)
              simp only [Act.put, List.setIfInBounds_toArray, List.set_cons_zero, List.set_cons_succ]
              refine take_held 25 T0 rfl (by kernel_rfl) (by kernel_rfl) (by kernel_rfl) (fun _ _ _ h => h) (by kernel_rfl) (v := ?v25) ?y25 ?r25
              case y25 => (intro u hu; go_simp; try rfl)
              simp only [Act.put, List.setIfInBounds_toArray, List.set_cons_zero, List.set_cons_succ]
              refine take_held 26 T0 rfl (by kernel_rfl) (by kernel_rfl) (by kernel_rfl) (fun _ _ _ h => h) (by kernel_rfl) (v := ?v26) ?y26 ?r26
              case y26 => (intro u hu; go_simp; try rfl)
              simp only [Act.put, List.setIfInBounds_toArray, List.set_cons_zero, List.set_cons_succ]
              refine take_held 27 T0 rfl (by kernel_rfl) (by kernel_rfl) (by kernel_rfl) (fun _ _ _ h => h) (by kernel_rfl) (v := ?v27) ?y27 ?r27
              case y27 => (intro u hu; go_simp; try rfl)
              simp only [Act.put, List.setIfInBounds_toArray, List.set_cons_zero, List.set_cons_succ]
              refine take_held 28 T0 rfl (by kernel_rfl) (by kernel_rfl) (by kernel_rfl) (fun _ _ _ h => h) (by kernel_rfl) (v := ?v28) ?y28 ?r28
              case y28 => (intro u hu; go_simp; try rfl)
              simp only [Act.put, List.setIfInBounds_toArray, List.set_cons_zero, List.set_cons_succ]
              refine take_held 29 T0 rfl (by kernel_rfl) (by kernel_rfl) (by kernel_rfl) (fun _ _ _ h => h) (by kernel_rfl) (v := ?v29) ?y29 ?r29
              case y29 => (intro u hu; have zz0 := (show u.cell? ⟨(ja.add (i * 9)).block, (ja.add (i * 9)).off + 1, none⟩ = some (.int .i64 1) from (HJc.out u hu).1); go_simp; try rfl)
              simp only [Act.put, List.setIfInBounds_toArray, List.set_cons_zero, List.set_cons_succ]
              refine take_held 30 T0 rfl (by kernel_rfl) (by kernel_rfl) (by kernel_rfl) (fun _ _ _ h => h) (by kernel_rfl) (v := ?v30) ?y30 ?r30
              case y30 => (intro u hu; go_simp; try rfl)
              simp only [Act.put, List.setIfInBounds_toArray, List.set_cons_zero, List.set_cons_succ]
              refine take_held 31 T0 rfl (by kernel_rfl) (by kernel_rfl) (by kernel_rfl) (fun _ _ _ h => h) (by kernel_rfl) (v := ?v31) ?y31 ?r31
              case y31 => (intro u hu; go_simp; try rfl)
              simp only [Act.put, List.setIfInBounds_toArray, List.set_cons_zero, List.set_cons_succ]
              refine done_held (by kernel_rfl) ?_ _
              go_wp2_with fail
              go_roundw
              case rel => exact ⟨i + 1, by omega, by go_num, bcat HBq.out (Below.refl _ _).drew (Nat.le_refl _)⟩
              case measure => simp only [intOf]; omega
            · obtain rfl : i = k := by omega
              have hd : decide ((i : Int) < (i : Int)) = false := decide_eq_false (by omega)
              have hck : wr.cell? ⟨(ja.add (i * 9)).block, (ja.add (i * 9)).off + 1, none⟩ = some (.int .i64 2) := HJk.out _ HBq.out
              have hik : (i : Int) < (i : Int) + 1 := by omega
              go_wp2_with (go_at_call 6; refine (awake14_any _).mono ?_; rintro e w9 ⟨rw9, rfl, rfl, b9⟩)
              go_ret
              exact ⟨rfl, bcat (bcat HB2.out HBq.out (Nat.le_refl _)) b9 (Nat.le_refl _)⟩
end Go.Proofs.Ytgnpmjlliolmoaa.Dig
