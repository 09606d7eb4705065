/-
  The function that the law WalRecords hands over: what it does with each record that it is told.
-/
import Derived.Test.YtnehkjabhmhijaaWalIter2
namespace Go.Proofs.Ytnehkjabhmhijaa.Wal
set_option linter.unusedVariables false
set_option linter.unusedSimpArgs false
open Go Go.RowKit Go.Shelf Go.Proofs
open Go.Proofs.Ytnehkjabhmhijaa.Disk (Row getD_in ret_int add_add DiskIs Kept St now setSt owns_row owns_same)

theorem skip_held {P : Program} {S : World → Prop} {Q : Exit → Act → World → Prop} {md : Region.Mode} {l : List Oper} (i : Nat) {oi : Oper} {fuel : Nat} {listed : Array Bool} {a : Act} {w : World} (hS : S w) (hi : nth l i = Option.some oi)
    (hs : Region.noSelect l.toArray = true) (hf : Region.free md l.toArray listed i = true) (hr : (Region.ready md l.toArray listed).contains i = true) (hQ : ∀ c a w, Q (.panic c) (a.put oi.dst undef) w → Q (.panic c) a w)
    (hw : Region.wanted oi (yielded l.toArray a.tmps) = false)
    (h : wpAnyH P md l.toArray Q S fuel (listed.setIfInBounds i true) (a.put oi.dst undef) w) : wpAnyH P md l.toArray Q S (fuel + 1) listed a w :=
  wpAnyH_take ((nth_eq l i).trans hi) hs hf hr hQ (Or.inr ⟨hw, rfl⟩) hS h
theorem box_turn {C : Nat → Prop} {V u : World} {B : Nat} {t : TypeId} {v : Value} (h : Boxed V B t v) (ht : Turn C V u) (hn : ¬ C B) : Boxed u B t v := (ht.block B h.lt hn).trans h
theorem box_ne {V : World} {A B : Nat} {t u : TypeId} {v v' : Value} (h : Boxed V A t v) (h' : Boxed V B u v') (ht : t ≠ u) : A ≠ B := by
  intro e
  subst e
  have e : Option.some (Obj.cells #[v] t (0, 0)) = Option.some (Obj.cells #[v'] u (0, 0)) := h.symm.trans h'
  cases e
  exact ht rfl
theorem row_apart {V : World} {a : Option Addr} {l : Nat} {zs : List Int} {B : Nat} {t : TypeId} {b : Bool} (hr : Row V a l zs) (hl : 1 ≤ l) (h : Boxed V B t (.bool b)) : ∀ y, a = Option.some y → y.block ≠ B := by
  intro y hy e
  obtain ⟨y', hy', hc⟩ := hr.cell 0 (by omega)
  rw [hy] at hy'
  cases hy'
  rw [add_nought] at hc
  unfold World.cell? at hc
  rw [e, show V.heap[B]? = _ from h] at hc
  cases ho : y.off with
  | zero => rw [ho] at hc; simp at hc
  | succ n => rw [ho] at hc; simp at hc
theorem own_apart {V : World} {B n size base : Nat} {t e : TypeId} {v u : Value} {xs : List Value} (hr : V.ownsRow base e size v n xs) (h : Boxed V B t u) (ht : t ≠ e) : ∀ g, v.ownBlock = Option.some g → g ≠ B := fun g hg e' => (h.not_row ht hr) (by rw [hg, e'])
def CK (OKB KB : Nat) : Nat → Prop := fun q => q = OKB ∨ q = KB

set_option maxRecDepth 100000 in
set_option maxHeartbeats 4000000 in
theorem tell_any (V : World) (OKB KB WB NB B k N vc at_ l' c' : Nat) (b : Bool) (n : Int) (va a' : Option Addr) (zs zs' : List Int) (ns : List Nat) (hrec : Recs B zs ns (.slice va N vc) V) (hns : ns.length = N)
    (hOK : Boxed V OKB 4 (.bool b)) (hKB : Boxed V KB 3 (.int .i64 k)) (hWB : Boxed V WB 31 (.slice va N vc)) (hNB : Boxed V NB 3 (.int .i64 n)) (hkn : KB ≠ NB) (hk : k < N) (hN : N ≤ 100000) (hr : Row V a' l' zs') (hl' : 1 ≤ l') :
    Calls Try.prog 12 #[.int .i64 at_, .slice a' l' c', .pointer (Option.some ⟨OKB, 0, none⟩), .pointer (Option.some ⟨KB, 0, none⟩), .pointer (Option.some ⟨WB, 0, none⟩), .pointer (Option.some ⟨NB, 0, none⟩)] V fun e V' => e = .returned (.bool (decide ((k : Int) + 1 < n))) ∧
      ∃ b', Boxed V' OKB 4 (.bool b') ∧ Boxed V' KB 3 (.int .i64 ((k : Int) + 1)) ∧ Turn (CK OKB KB) V V' ∧ (b = true ∧ ((places 0 ns).map Prod.fst)[k]? = Option.some at_ ∧ (says zs 0 ns)[k]? = Option.some zs' → b' = true) := by
  obtain ⟨ps, ho, hp1, hp2, hfr⟩ := hrec.ex
  rw [hns] at ho
  have hpl : ps.length = N := by have := congrArg List.length hp2; rw [List.length_map, says_length, hns] at this; exact this
  obtain ⟨g, hg⟩ := Disk.own_at3 ho (by omega)
  subst hg
  have hne1 : OKB ≠ KB := box_ne hOK hKB (by decide)
  have hne2 : OKB ≠ NB := box_ne hOK hNB (by decide)
  have hne3 : NB ≠ KB := fun e => hkn e.symm
  have hneW : OKB ≠ WB := box_ne hOK hWB (by decide)
  have hneg : g ≠ OKB := own_apart ho hOK (by decide) g rfl
  have hS : Turn (fun q => q = OKB) V V.drew := ⟨rfl, rfl, rfl, Nat.le_refl _, fun _ _ _ => rfl⟩
  have hst : ∀ b', Turn (fun q => q = OKB) V (V.drew.setCell ⟨OKB, 0, none⟩ (.bool b')) := fun b' => ⟨rfl, rfl, rfl, by simp [World.setCell], fun q hq hn => Below.heap_setCell _ _ _ q hn⟩
  have hok : V.drew.cell? ⟨OKB, 0, none⟩ = Option.some (.bool b) := hOK.cell
  have hof : V.drew.frozen? ⟨OKB, 0, none⟩ = false := hOK.frozen
  have kKB : ∀ u, Turn (fun q => q = OKB) V u → u.cell? ⟨KB, 0, none⟩ = Option.some (.int .i64 k) := fun u hu => (box_turn hKB hu (fun e => hne1 e.symm)).cell
  have kWB : ∀ u, Turn (fun q => q = OKB) V u → u.cell? ⟨WB, 0, none⟩ = Option.some (.slice (Option.some ⟨g, 0, none⟩) N vc) := fun u hu => (box_turn hWB hu (fun e => hneW e.symm)).cell
  have hcr := cellsR_at ps k (by omega)
  have hc0 := ho.cellAt (k * 2) (by omega)
  have hc1 := ho.cellAt (k * 2 + 1) (by omega)
  rw [hcr.1] at hc0
  rw [hcr.2] at hc1
  obtain ⟨A, P, hAP⟩ : ∃ A P, ps[k]'(by omega) = (A, P) := ⟨_, _, rfl⟩
  rw [hAP] at hc0 hc1
  have hfP : Fresh B V P := by have := hfr _ (List.getElem_mem (show k < ps.length by omega)); rw [hAP] at this; exact this
  have hA : ((places 0 ns).map Prod.fst)[k]? = Option.some A := by rw [← hp1, List.map_map, List.getElem?_map, List.getElem?_eq_getElem (by omega), hAP]; rfl
  have hZ : (says zs 0 ns)[k]? = Option.some P.zs := by rw [← hp2, List.getElem?_map, List.getElem?_eq_getElem (by omega), hAP]; rfl
  have kAt : ∀ u, Turn (fun q => q = OKB) V u → u.cell? ⟨g, k * 2, none⟩ = Option.some (.int .i64 A) := fun u hu => (cell_block (p := ⟨g, k * 2, none⟩) (hu.block g (World.block_lt_of_cell? V _ hc0) hneg)).trans hc0
  have kBb : ∀ u, Turn (fun q => q = OKB) V u → u.cell? ⟨g, k * 2 + 1, none⟩ = Option.some (.slice P.a P.zs.length P.cap) := fun u hu => (cell_block (p := ⟨g, k * 2 + 1, none⟩) (hu.block g (World.block_lt_of_cell? V _ hc0) hneg)).trans hc1
  have rowP := (owns_row hfP.own hfP.small).1
  have sP : ∀ u, Turn (fun q => q = OKB) V u → (convert 22 9 (.slice P.a P.zs.length P.cap)).run Try.prog u = _ := fun u hu => Disk.conv_row (Row.block rowP (fun y hy => hu.block _ (fresh_block hfP y hy).2.1 (own_apart hfP.own hOK (by decide) y.block (by unfold Piece.val; rw [hy]; rfl)))) _
  have sX : ∀ u, Turn (fun q => q = OKB) V u → (convert 22 9 (.slice a' l' c')).run Try.prog u = _ := fun u hu => Disk.conv_row (Row.block hr (fun y hy => hu.block _ (hr.lt y hy (by omega)) (row_apart hr hl' hOK y hy))) _
  have t0 : (k : Int) < (N : Int) := by omega
  have hPs := hfP.small
  have hXs := hr.small
  have fin : ∀ b', (b = true ∧ at_ = A ∧ zs' = P.zs → b' = true) → (Ending.returned (.bool (decide ((k : Int) + 1 < n))) = .returned (.bool (decide ((k : Int) + 1 < n))) ∧ ∃ b'', Boxed ((V.drew.setCell ⟨OKB, 0, none⟩ (.bool b')).setCell ⟨KB, 0, none⟩ (.int .i64 ((k : Int) + 1))) OKB 4 (.bool b'') ∧ Boxed ((V.drew.setCell ⟨OKB, 0, none⟩ (.bool b')).setCell ⟨KB, 0, none⟩ (.int .i64 ((k : Int) + 1))) KB 3 (.int .i64 ((k : Int) + 1)) ∧ Turn (CK OKB KB) V ((V.drew.setCell ⟨OKB, 0, none⟩ (.bool b')).setCell ⟨KB, 0, none⟩ (.int .i64 ((k : Int) + 1))) ∧ (b = true ∧ ((places 0 ns).map Prod.fst)[k]? = Option.some at_ ∧ (says zs 0 ns)[k]? = Option.some zs' → b'' = true)) := by
    intro b' hb'
    have hOKd : Boxed V.drew OKB 4 (.bool b) := hOK
    refine ⟨rfl, b', (hOKd.set (.bool b')).other hne1 _, (box_turn hKB (hst b') (fun e => hne1 e.symm)).set _, ⟨rfl, rfl, rfl, by simp [World.setCell], fun q hq hn => ?_⟩, fun h => hb' ⟨h.1, ?_, ?_⟩⟩
    · rw [Below.heap_setCell _ _ _ q (fun e => hn (.inr e)), Below.heap_setCell _ _ _ q (fun e => hn (.inl e))]
      rfl
    · rw [hA] at h; exact (Option.some.inj h.2.1).symm
    · rw [hZ] at h; exact (Option.some.inj h.2.2).symm
  clear hA hZ hc0 hc1 hcr rowP hfP hfr hp1 hp2 hAP
  generalize P.a = pa at *
  generalize P.cap = pc at *
  generalize hpz : P.zs = pz at *
  generalize pz.length = pl at *
  cases b with
  | false =>
    go_enter Try.func12, Try.ntmps12
    go_wp2
    refine start_held (S := fun u => Turn (fun q => q = OKB) V u) 28 rfl (by kernel_rfl) (hS) ?_
    simp only [Array.replicate_succ, Array.replicate_zero, List.push_toArray, List.nil_append, List.cons_append]
    refine read_held 0 rfl (by kernel_rfl) (by kernel_rfl) (.bool false) (by have := hok; go_simp) (by assumption) ?_
    simp only [Act.put, List.setIfInBounds_toArray, List.set_cons_zero, List.set_cons_succ]
    refine take_held 1 (by assumption) rfl (by kernel_rfl) (by kernel_rfl) (by kernel_rfl) (fun _ _ _ h => h) (by kernel_rfl) (v := ?v0) ?y0 ?r0
    case y0 => (intro u hu; go_simp; try rfl)
    simp only [Act.put, List.setIfInBounds_toArray, List.set_cons_zero, List.set_cons_succ]
    refine skip_held 2 (by assumption) rfl (by kernel_rfl) (by kernel_rfl) (by kernel_rfl) (fun _ _ _ h => h) (by kernel_rfl) ?_
    simp only [Act.put, List.setIfInBounds_toArray, List.set_cons_zero, List.set_cons_succ]
    refine skip_held 3 (by assumption) rfl (by kernel_rfl) (by kernel_rfl) (by kernel_rfl) (fun _ _ _ h => h) (by kernel_rfl) ?_
    simp only [Act.put, List.setIfInBounds_toArray, List.set_cons_zero, List.set_cons_succ]
    refine skip_held 4 (by assumption) rfl (by kernel_rfl) (by kernel_rfl) (by kernel_rfl) (fun _ _ _ h => h) (by kernel_rfl) ?_
    simp only [Act.put, List.setIfInBounds_toArray, List.set_cons_zero, List.set_cons_succ]
    refine skip_held 5 (by assumption) rfl (by kernel_rfl) (by kernel_rfl) (by kernel_rfl) (fun _ _ _ h => h) (by kernel_rfl) ?_
    simp only [Act.put, List.setIfInBounds_toArray, List.set_cons_zero, List.set_cons_succ]
    refine take_held 6 (by assumption) rfl (by kernel_rfl) (by kernel_rfl) (by kernel_rfl) (fun _ _ _ h => h) (by kernel_rfl) (v := ?v1) ?y1 ?r1
    case y1 => (intro u hu; go_simp; try rfl)
    simp only [Act.put, List.setIfInBounds_toArray, List.set_cons_zero, List.set_cons_succ]
    refine take_held 7 (by assumption) rfl (by kernel_rfl) (by kernel_rfl) (by kernel_rfl) (fun _ _ _ h => h) (by kernel_rfl) (v := ?v2) ?y2 ?r2
    case y2 => (intro u hu; go_simp; try rfl)
    simp only [Act.put, List.setIfInBounds_toArray, List.set_cons_zero, List.set_cons_succ]
    refine skip_held 8 (by assumption) rfl (by kernel_rfl) (by kernel_rfl) (by kernel_rfl) (fun _ _ _ h => h) (by kernel_rfl) ?_
    simp only [Act.put, List.setIfInBounds_toArray, List.set_cons_zero, List.set_cons_succ]
    refine skip_held 9 (by assumption) rfl (by kernel_rfl) (by kernel_rfl) (by kernel_rfl) (fun _ _ _ h => h) (by kernel_rfl) ?_
    simp only [Act.put, List.setIfInBounds_toArray, List.set_cons_zero, List.set_cons_succ]
    refine skip_held 10 (by assumption) rfl (by kernel_rfl) (by kernel_rfl) (by kernel_rfl) (fun _ _ _ h => h) (by kernel_rfl) ?_
    simp only [Act.put, List.setIfInBounds_toArray, List.set_cons_zero, List.set_cons_succ]
    refine skip_held 11 (by assumption) rfl (by kernel_rfl) (by kernel_rfl) (by kernel_rfl) (fun _ _ _ h => h) (by kernel_rfl) ?_
    simp only [Act.put, List.setIfInBounds_toArray, List.set_cons_zero, List.set_cons_succ]
    refine skip_held 12 (by assumption) rfl (by kernel_rfl) (by kernel_rfl) (by kernel_rfl) (fun _ _ _ h => h) (by kernel_rfl) ?_
    simp only [Act.put, List.setIfInBounds_toArray, List.set_cons_zero, List.set_cons_succ]
    refine skip_held 13 (by assumption) rfl (by kernel_rfl) (by kernel_rfl) (by kernel_rfl) (fun _ _ _ h => h) (by kernel_rfl) ?_
    simp only [Act.put, List.setIfInBounds_toArray, List.set_cons_zero, List.set_cons_succ]
    refine skip_held 14 (by assumption) rfl (by kernel_rfl) (by kernel_rfl) (by kernel_rfl) (fun _ _ _ h => h) (by kernel_rfl) ?_
    simp only [Act.put, List.setIfInBounds_toArray, List.set_cons_zero, List.set_cons_succ]
    refine take_held 15 (by assumption) rfl (by kernel_rfl) (by kernel_rfl) (by kernel_rfl) (fun _ _ _ h => h) (by kernel_rfl) (v := ?v3) ?y3 ?r3
    case y3 => (intro u hu; go_simp; try rfl)
    simp only [Act.put, List.setIfInBounds_toArray, List.set_cons_zero, List.set_cons_succ]
    refine take_held 16 (by assumption) rfl (by kernel_rfl) (by kernel_rfl) (by kernel_rfl) (fun _ _ _ h => h) (by kernel_rfl) (v := ?v4) ?y4 ?r4
    case y4 => (intro u hu; go_simp; try rfl)
    simp only [Act.put, List.setIfInBounds_toArray, List.set_cons_zero, List.set_cons_succ]
    refine skip_held 17 (by assumption) rfl (by kernel_rfl) (by kernel_rfl) (by kernel_rfl) (fun _ _ _ h => h) (by kernel_rfl) ?_
    simp only [Act.put, List.setIfInBounds_toArray, List.set_cons_zero, List.set_cons_succ]
    refine skip_held 18 (by assumption) rfl (by kernel_rfl) (by kernel_rfl) (by kernel_rfl) (fun _ _ _ h => h) (by kernel_rfl) ?_
    simp only [Act.put, List.setIfInBounds_toArray, List.set_cons_zero, List.set_cons_succ]
    refine skip_held 19 (by assumption) rfl (by kernel_rfl) (by kernel_rfl) (by kernel_rfl) (fun _ _ _ h => h) (by kernel_rfl) ?_
    simp only [Act.put, List.setIfInBounds_toArray, List.set_cons_zero, List.set_cons_succ]
    refine skip_held 20 (by assumption) rfl (by kernel_rfl) (by kernel_rfl) (by kernel_rfl) (fun _ _ _ h => h) (by kernel_rfl) ?_
    simp only [Act.put, List.setIfInBounds_toArray, List.set_cons_zero, List.set_cons_succ]
    refine skip_held 21 (by assumption) rfl (by kernel_rfl) (by kernel_rfl) (by kernel_rfl) (fun _ _ _ h => h) (by kernel_rfl) ?_
    simp only [Act.put, List.setIfInBounds_toArray, List.set_cons_zero, List.set_cons_succ]
    refine skip_held 22 (by assumption) rfl (by kernel_rfl) (by kernel_rfl) (by kernel_rfl) (fun _ _ _ h => h) (by kernel_rfl) ?_
    simp only [Act.put, List.setIfInBounds_toArray, List.set_cons_zero, List.set_cons_succ]
    refine skip_held 23 (by assumption) rfl (by kernel_rfl) (by kernel_rfl) (by kernel_rfl) (fun _ _ _ h => h) (by kernel_rfl) ?_
    simp only [Act.put, List.setIfInBounds_toArray, List.set_cons_zero, List.set_cons_succ]
    refine skip_held 24 (by assumption) rfl (by kernel_rfl) (by kernel_rfl) (by kernel_rfl) (fun _ _ _ h => h) (by kernel_rfl) ?_
    simp only [Act.put, List.setIfInBounds_toArray, List.set_cons_zero, List.set_cons_succ]
    refine skip_held 25 (by assumption) rfl (by kernel_rfl) (by kernel_rfl) (by kernel_rfl) (fun _ _ _ h => h) (by kernel_rfl) ?_
    simp only [Act.put, List.setIfInBounds_toArray, List.set_cons_zero, List.set_cons_succ]
    refine take_held 26 (by assumption) rfl (by kernel_rfl) (by kernel_rfl) (by kernel_rfl) (fun _ _ _ h => h) (by kernel_rfl) (v := ?v5) ?y5 ?r5
    case y5 => (intro u hu; go_simp; try rfl)
    simp only [Act.put, List.setIfInBounds_toArray, List.set_cons_zero, List.set_cons_succ]
    refine wpAnyH_ready (rs := [27]) (by kernel_rfl) (by simp) (AllReadyH.cons ((nth_eq _ 27).trans rfl) ?_ AllReadyH.nil)
    intro K' hK
    refine skip_in hK (by kernel_rfl) (V.drew.setCell ⟨OKB, 0, none⟩ (.bool false)) (by go_simp) (hst false) ?_
    simp only [Act.put, List.setIfInBounds_toArray, List.set_cons_zero, List.set_cons_succ]
    refine done_held (by kernel_rfl) ?_ _
    have hk1 := box_turn hKB (hst false) (fun e => hne1 e.symm)
    have hn1 := box_turn hNB (hst false) (fun e => hne2 e.symm)
    have hfin := (show Hid _ from fin false (fun h => absurd h.1 (by decide)))
    obtain ⟨V1, hV1⟩ : ∃ V1, V.drew.setCell ⟨OKB, 0, none⟩ (.bool false) = V1 := ⟨_, rfl⟩
    rw [hV1] at hk1 hn1 hfin ⊢
    clear hV1
    have ck := hk1.cell
    have cf := hk1.frozen
    have cn := hn1.cell
    have ck2 := (hk1.set (.int .i64 ((k : Int) + 1))).cell
    have cn2 := (hn1.other hne3 (.int .i64 ((k : Int) + 1))).cell
    go_wp2
    go_ret
    obtain ⟨_, b2, q1, q2, q3, q4⟩ := hfin.out
    exact ⟨rfl, b2, q1, q2, q3, fun h => by cases h.1⟩
  | true =>
    by_cases hat : at_ = A
    · subst hat
      by_cases hzz : zs' = pz
      · subst hzz
        generalize strOfNums zs' = s at *
        go_enter Try.func12, Try.ntmps12
        go_wp2
        refine start_held (S := fun u => Turn (fun q => q = OKB) V u) 28 rfl (by kernel_rfl) (hS) ?_
        simp only [Array.replicate_succ, Array.replicate_zero, List.push_toArray, List.nil_append, List.cons_append]
        refine read_held 0 rfl (by kernel_rfl) (by kernel_rfl) (.bool true) (by have := hok; go_simp) (by assumption) ?_
        simp only [Act.put, List.setIfInBounds_toArray, List.set_cons_zero, List.set_cons_succ]
        refine take_held 1 (by assumption) rfl (by kernel_rfl) (by kernel_rfl) (by kernel_rfl) (fun _ _ _ h => h) (by kernel_rfl) (v := ?v6) ?y6 ?r6
        case y6 => (intro u hu; go_simp; try rfl)
        simp only [Act.put, List.setIfInBounds_toArray, List.set_cons_zero, List.set_cons_succ]
        refine take_held 2 (by assumption) rfl (by kernel_rfl) (by kernel_rfl) (by kernel_rfl) (fun _ _ _ h => h) (by kernel_rfl) (v := ?v7) ?y7 ?r7
        case y7 => (intro u hu; have := kKB u hu; go_simp; try rfl)
        simp only [Act.put, List.setIfInBounds_toArray, List.set_cons_zero, List.set_cons_succ]
        refine take_held 3 (by assumption) rfl (by kernel_rfl) (by kernel_rfl) (by kernel_rfl) (fun _ _ _ h => h) (by kernel_rfl) (v := ?v8) ?y8 ?r8
        case y8 => (intro u hu; have := kWB u hu; go_simp; try rfl)
        simp only [Act.put, List.setIfInBounds_toArray, List.set_cons_zero, List.set_cons_succ]
        refine take_held 4 (by assumption) rfl (by kernel_rfl) (by kernel_rfl) (by kernel_rfl) (fun _ _ _ h => h) (by kernel_rfl) (v := ?v9) ?y9 ?r9
        case y9 => (intro u hu; go_simp; try rfl)
        simp only [Act.put, List.setIfInBounds_toArray, List.set_cons_zero, List.set_cons_succ]
        refine take_held 5 (by assumption) rfl (by kernel_rfl) (by kernel_rfl) (by kernel_rfl) (fun _ _ _ h => h) (by kernel_rfl) (v := ?v10) ?y10 ?r10
        case y10 => (intro u hu; go_simp; try rfl)
        simp only [Act.put, List.setIfInBounds_toArray, List.set_cons_zero, List.set_cons_succ]
        refine take_held 6 (by assumption) rfl (by kernel_rfl) (by kernel_rfl) (by kernel_rfl) (fun _ _ _ h => h) (by kernel_rfl) (v := ?v11) ?y11 ?r11
        case y11 => (intro u hu; go_simp; try rfl)
        simp only [Act.put, List.setIfInBounds_toArray, List.set_cons_zero, List.set_cons_succ]
        refine take_held 7 (by assumption) rfl (by kernel_rfl) (by kernel_rfl) (by kernel_rfl) (fun _ _ _ h => h) (by kernel_rfl) (v := ?v12) ?y12 ?r12
        case y12 => (intro u hu; go_simp; try rfl)
        simp only [Act.put, List.setIfInBounds_toArray, List.set_cons_zero, List.set_cons_succ]
        refine take_held 8 (by assumption) rfl (by kernel_rfl) (by kernel_rfl) (by kernel_rfl) (fun _ _ _ h => h) (by kernel_rfl) (v := ?v13) ?y13 ?r13
        case y13 => (intro u hu; go_simp; try rfl)
        simp only [Act.put, List.setIfInBounds_toArray, List.set_cons_zero, List.set_cons_succ]
        refine take_held 9 (by assumption) rfl (by kernel_rfl) (by kernel_rfl) (by kernel_rfl) (fun _ _ _ h => h) (by kernel_rfl) (v := ?v14) ?y14 ?r14
        case y14 => (intro u hu; have := kWB u hu; go_simp; try rfl)
        simp only [Act.put, List.setIfInBounds_toArray, List.set_cons_zero, List.set_cons_succ]
        refine take_held 10 (by assumption) rfl (by kernel_rfl) (by kernel_rfl) (by kernel_rfl) (fun _ _ _ h => h) (by kernel_rfl) (v := ?v15) ?y15 ?r15
        case y15 => (intro u hu; have := kKB u hu; go_simp; try rfl)
        simp only [Act.put, List.setIfInBounds_toArray, List.set_cons_zero, List.set_cons_succ]
        refine take_held 11 (by assumption) rfl (by kernel_rfl) (by kernel_rfl) (by kernel_rfl) (fun _ _ _ h => h) (by kernel_rfl) (v := ?v16) ?y16 ?r16
        case y16 => (intro u hu; go_simp; try rfl)
        simp only [Act.put, List.setIfInBounds_toArray, List.set_cons_zero, List.set_cons_succ]
        refine take_held 12 (by assumption) rfl (by kernel_rfl) (by kernel_rfl) (by kernel_rfl) (fun _ _ _ h => h) (by kernel_rfl) (v := ?v17) ?y17 ?r17
        case y17 => (intro u hu; go_simp; try rfl)
        simp only [Act.put, List.setIfInBounds_toArray, List.set_cons_zero, List.set_cons_succ]
        refine take_held 13 (by assumption) rfl (by kernel_rfl) (by kernel_rfl) (by kernel_rfl) (fun _ _ _ h => h) (by kernel_rfl) (v := ?v18) ?y18 ?r18
        case y18 => (intro u hu; have := kAt u hu; go_simp; try rfl)
        simp only [Act.put, List.setIfInBounds_toArray, List.set_cons_zero, List.set_cons_succ]
        refine take_held 14 (by assumption) rfl (by kernel_rfl) (by kernel_rfl) (by kernel_rfl) (fun _ _ _ h => h) (by kernel_rfl) (v := ?v19) ?y19 ?r19
        case y19 => (intro u hu; go_simp; try rfl)
        simp only [Act.put, List.setIfInBounds_toArray, List.set_cons_zero, List.set_cons_succ]
        refine take_held 15 (by assumption) rfl (by kernel_rfl) (by kernel_rfl) (by kernel_rfl) (fun _ _ _ h => h) (by kernel_rfl) (v := ?v20) ?y20 ?r20
        case y20 => (intro u hu; go_simp; try rfl)
        simp only [Act.put, List.setIfInBounds_toArray, List.set_cons_zero, List.set_cons_succ]
        refine take_held 16 (by assumption) rfl (by kernel_rfl) (by kernel_rfl) (by kernel_rfl) (fun _ _ _ h => h) (by kernel_rfl) (v := ?v21) ?y21 ?r21
        case y21 => (intro u hu; go_simp; try rfl)
        simp only [Act.put, List.setIfInBounds_toArray, List.set_cons_zero, List.set_cons_succ]
        refine take_held 17 (by assumption) rfl (by kernel_rfl) (by kernel_rfl) (by kernel_rfl) (fun _ _ _ h => h) (by kernel_rfl) (v := ?v22) ?y22 ?r22
        case y22 => (intro u hu; go_simp; try rfl)
        simp only [Act.put, List.setIfInBounds_toArray, List.set_cons_zero, List.set_cons_succ]
        refine take_held 18 (by assumption) rfl (by kernel_rfl) (by kernel_rfl) (by kernel_rfl) (fun _ _ _ h => h) (by kernel_rfl) (v := ?v23) ?y23 ?r23
        case y23 => (intro u hu; have := sX u hu; go_simp; try rfl)
        simp only [Act.put, List.setIfInBounds_toArray, List.set_cons_zero, List.set_cons_succ]
        refine take_held 19 (by assumption) rfl (by kernel_rfl) (by kernel_rfl) (by kernel_rfl) (fun _ _ _ h => h) (by kernel_rfl) (v := ?v24) ?y24 ?r24
        case y24 => (intro u hu; have := kWB u hu; go_simp; try rfl)
        simp only [Act.put, List.setIfInBounds_toArray, List.set_cons_zero, List.set_cons_succ]
        refine take_held 20 (by assumption) rfl (by kernel_rfl) (by kernel_rfl) (by kernel_rfl) (fun _ _ _ h => h) (by kernel_rfl) (v := ?v25) ?y25 ?r25
        case y25 => (intro u hu; have := kKB u hu; go_simp; try rfl)
        simp only [Act.put, List.setIfInBounds_toArray, List.set_cons_zero, List.set_cons_succ]
        refine take_held 21 (by assumption) rfl (by kernel_rfl) (by kernel_rfl) (by kernel_rfl) (fun _ _ _ h => h) (by kernel_rfl) (v := ?v26) ?y26 ?r26
        case y26 => (intro u hu; go_simp; try rfl)
        simp only [Act.put, List.setIfInBounds_toArray, List.set_cons_zero, List.set_cons_succ]
        refine take_held 22 (by assumption) rfl (by kernel_rfl) (by kernel_rfl) (by kernel_rfl) (fun _ _ _ h => h) (by kernel_rfl) (v := ?v27) ?y27 ?r27
        case y27 => (intro u hu; go_simp; try rfl)
        simp only [Act.put, List.setIfInBounds_toArray, List.set_cons_zero, List.set_cons_succ]
        refine take_held 23 (by assumption) rfl (by kernel_rfl) (by kernel_rfl) (by kernel_rfl) (fun _ _ _ h => h) (by kernel_rfl) (v := ?v28) ?y28 ?r28
        case y28 => (intro u hu; have := kBb u hu; go_simp; try rfl)
        simp only [Act.put, List.setIfInBounds_toArray, List.set_cons_zero, List.set_cons_succ]
        refine take_held 24 (by assumption) rfl (by kernel_rfl) (by kernel_rfl) (by kernel_rfl) (fun _ _ _ h => h) (by kernel_rfl) (v := ?v29) ?y29 ?r29
        case y29 => (intro u hu; have := sP u hu; go_simp; try rfl)
        simp only [Act.put, List.setIfInBounds_toArray, List.set_cons_zero, List.set_cons_succ]
        refine take_held 25 (by assumption) rfl (by kernel_rfl) (by kernel_rfl) (by kernel_rfl) (fun _ _ _ h => h) (by kernel_rfl) (v := ?v30) ?y30 ?r30
        case y30 => (intro u hu; go_simp; try rfl)
        simp only [Act.put, List.setIfInBounds_toArray, List.set_cons_zero, List.set_cons_succ]
        refine take_held 26 (by assumption) rfl (by kernel_rfl) (by kernel_rfl) (by kernel_rfl) (fun _ _ _ h => h) (by kernel_rfl) (v := ?v31) ?y31 ?r31
        case y31 => (intro u hu; go_simp; try rfl)
        simp only [Act.put, List.setIfInBounds_toArray, List.set_cons_zero, List.set_cons_succ]
        refine wpAnyH_ready (rs := [27]) (by kernel_rfl) (by simp) (AllReadyH.cons ((nth_eq _ 27).trans rfl) ?_ AllReadyH.nil)
        intro K' hK
        refine skip_in hK (by kernel_rfl) (V.drew.setCell ⟨OKB, 0, none⟩ (.bool true)) (by go_simp) (hst true) ?_
        simp only [Act.put, List.setIfInBounds_toArray, List.set_cons_zero, List.set_cons_succ]
        refine done_held (by kernel_rfl) ?_ _
        have hk1 := box_turn hKB (hst true) (fun e => hne1 e.symm)
        have hn1 := box_turn hNB (hst true) (fun e => hne2 e.symm)
        have hfin := (show Hid _ from fin true (fun _ => rfl))
        obtain ⟨V1, hV1⟩ : ∃ V1, V.drew.setCell ⟨OKB, 0, none⟩ (.bool true) = V1 := ⟨_, rfl⟩
        rw [hV1] at hk1 hn1 hfin ⊢
        clear hV1
        have ck := hk1.cell
        have cf := hk1.frozen
        have cn := hn1.cell
        have ck2 := (hk1.set (.int .i64 ((k : Int) + 1))).cell
        have cn2 := (hn1.other hne3 (.int .i64 ((k : Int) + 1))).cell
        go_wp2
        go_ret
        obtain ⟨_, b2, q1, q2, q3, q4⟩ := hfin.out
        exact ⟨rfl, b2, q1, q2, q3, fun h => q4 (by simpa using h)⟩
      · have hne := Disk.str_ne zs' pz hXs hPs hzz
        generalize strOfNums zs' = s at *
        generalize strOfNums pz = s' at *
        go_enter Try.func12, Try.ntmps12
        go_wp2
        refine start_held (S := fun u => Turn (fun q => q = OKB) V u) 28 rfl (by kernel_rfl) (hS) ?_
        simp only [Array.replicate_succ, Array.replicate_zero, List.push_toArray, List.nil_append, List.cons_append]
        refine read_held 0 rfl (by kernel_rfl) (by kernel_rfl) (.bool true) (by have := hok; go_simp) (by assumption) ?_
        simp only [Act.put, List.setIfInBounds_toArray, List.set_cons_zero, List.set_cons_succ]
        refine take_held 1 (by assumption) rfl (by kernel_rfl) (by kernel_rfl) (by kernel_rfl) (fun _ _ _ h => h) (by kernel_rfl) (v := ?v32) ?y32 ?r32
        case y32 => (intro u hu; go_simp; try rfl)
        simp only [Act.put, List.setIfInBounds_toArray, List.set_cons_zero, List.set_cons_succ]
        refine take_held 2 (by assumption) rfl (by kernel_rfl) (by kernel_rfl) (by kernel_rfl) (fun _ _ _ h => h) (by kernel_rfl) (v := ?v33) ?y33 ?r33
        case y33 => (intro u hu; have := kKB u hu; go_simp; try rfl)
        simp only [Act.put, List.setIfInBounds_toArray, List.set_cons_zero, List.set_cons_succ]
        refine take_held 3 (by assumption) rfl (by kernel_rfl) (by kernel_rfl) (by kernel_rfl) (fun _ _ _ h => h) (by kernel_rfl) (v := ?v34) ?y34 ?r34
        case y34 => (intro u hu; have := kWB u hu; go_simp; try rfl)
        simp only [Act.put, List.setIfInBounds_toArray, List.set_cons_zero, List.set_cons_succ]
        refine take_held 4 (by assumption) rfl (by kernel_rfl) (by kernel_rfl) (by kernel_rfl) (fun _ _ _ h => h) (by kernel_rfl) (v := ?v35) ?y35 ?r35
        case y35 => (intro u hu; go_simp; try rfl)
        simp only [Act.put, List.setIfInBounds_toArray, List.set_cons_zero, List.set_cons_succ]
        refine take_held 5 (by assumption) rfl (by kernel_rfl) (by kernel_rfl) (by kernel_rfl) (fun _ _ _ h => h) (by kernel_rfl) (v := ?v36) ?y36 ?r36
        case y36 => (intro u hu; go_simp; try rfl)
        simp only [Act.put, List.setIfInBounds_toArray, List.set_cons_zero, List.set_cons_succ]
        refine take_held 6 (by assumption) rfl (by kernel_rfl) (by kernel_rfl) (by kernel_rfl) (fun _ _ _ h => h) (by kernel_rfl) (v := ?v37) ?y37 ?r37
        case y37 => (intro u hu; go_simp; try rfl)
        simp only [Act.put, List.setIfInBounds_toArray, List.set_cons_zero, List.set_cons_succ]
        refine take_held 7 (by assumption) rfl (by kernel_rfl) (by kernel_rfl) (by kernel_rfl) (fun _ _ _ h => h) (by kernel_rfl) (v := ?v38) ?y38 ?r38
        case y38 => (intro u hu; go_simp; try rfl)
        simp only [Act.put, List.setIfInBounds_toArray, List.set_cons_zero, List.set_cons_succ]
        refine take_held 8 (by assumption) rfl (by kernel_rfl) (by kernel_rfl) (by kernel_rfl) (fun _ _ _ h => h) (by kernel_rfl) (v := ?v39) ?y39 ?r39
        case y39 => (intro u hu; go_simp; try rfl)
        simp only [Act.put, List.setIfInBounds_toArray, List.set_cons_zero, List.set_cons_succ]
        refine take_held 9 (by assumption) rfl (by kernel_rfl) (by kernel_rfl) (by kernel_rfl) (fun _ _ _ h => h) (by kernel_rfl) (v := ?v40) ?y40 ?r40
        case y40 => (intro u hu; have := kWB u hu; go_simp; try rfl)
        simp only [Act.put, List.setIfInBounds_toArray, List.set_cons_zero, List.set_cons_succ]
        refine take_held 10 (by assumption) rfl (by kernel_rfl) (by kernel_rfl) (by kernel_rfl) (fun _ _ _ h => h) (by kernel_rfl) (v := ?v41) ?y41 ?r41
        case y41 => (intro u hu; have := kKB u hu; go_simp; try rfl)
        simp only [Act.put, List.setIfInBounds_toArray, List.set_cons_zero, List.set_cons_succ]
        refine take_held 11 (by assumption) rfl (by kernel_rfl) (by kernel_rfl) (by kernel_rfl) (fun _ _ _ h => h) (by kernel_rfl) (v := ?v42) ?y42 ?r42
        case y42 => (intro u hu; go_simp; try rfl)
        simp only [Act.put, List.setIfInBounds_toArray, List.set_cons_zero, List.set_cons_succ]
        refine take_held 12 (by assumption) rfl (by kernel_rfl) (by kernel_rfl) (by kernel_rfl) (fun _ _ _ h => h) (by kernel_rfl) (v := ?v43) ?y43 ?r43
        case y43 => (intro u hu; go_simp; try rfl)
        simp only [Act.put, List.setIfInBounds_toArray, List.set_cons_zero, List.set_cons_succ]
        refine take_held 13 (by assumption) rfl (by kernel_rfl) (by kernel_rfl) (by kernel_rfl) (fun _ _ _ h => h) (by kernel_rfl) (v := ?v44) ?y44 ?r44
        case y44 => (intro u hu; have := kAt u hu; go_simp; try rfl)
        simp only [Act.put, List.setIfInBounds_toArray, List.set_cons_zero, List.set_cons_succ]
        refine take_held 14 (by assumption) rfl (by kernel_rfl) (by kernel_rfl) (by kernel_rfl) (fun _ _ _ h => h) (by kernel_rfl) (v := ?v45) ?y45 ?r45
        case y45 => (intro u hu; go_simp; try rfl)
        simp only [Act.put, List.setIfInBounds_toArray, List.set_cons_zero, List.set_cons_succ]
        refine take_held 15 (by assumption) rfl (by kernel_rfl) (by kernel_rfl) (by kernel_rfl) (fun _ _ _ h => h) (by kernel_rfl) (v := ?v46) ?y46 ?r46
        case y46 => (intro u hu; go_simp; try rfl)
        simp only [Act.put, List.setIfInBounds_toArray, List.set_cons_zero, List.set_cons_succ]
        refine take_held 16 (by assumption) rfl (by kernel_rfl) (by kernel_rfl) (by kernel_rfl) (fun _ _ _ h => h) (by kernel_rfl) (v := ?v47) ?y47 ?r47
        case y47 => (intro u hu; go_simp; try rfl)
        simp only [Act.put, List.setIfInBounds_toArray, List.set_cons_zero, List.set_cons_succ]
        refine take_held 17 (by assumption) rfl (by kernel_rfl) (by kernel_rfl) (by kernel_rfl) (fun _ _ _ h => h) (by kernel_rfl) (v := ?v48) ?y48 ?r48
        case y48 => (intro u hu; go_simp; try rfl)
        simp only [Act.put, List.setIfInBounds_toArray, List.set_cons_zero, List.set_cons_succ]
        refine take_held 18 (by assumption) rfl (by kernel_rfl) (by kernel_rfl) (by kernel_rfl) (fun _ _ _ h => h) (by kernel_rfl) (v := ?v49) ?y49 ?r49
        case y49 => (intro u hu; have := sX u hu; go_simp; try rfl)
        simp only [Act.put, List.setIfInBounds_toArray, List.set_cons_zero, List.set_cons_succ]
        refine take_held 19 (by assumption) rfl (by kernel_rfl) (by kernel_rfl) (by kernel_rfl) (fun _ _ _ h => h) (by kernel_rfl) (v := ?v50) ?y50 ?r50
        case y50 => (intro u hu; have := kWB u hu; go_simp; try rfl)
        simp only [Act.put, List.setIfInBounds_toArray, List.set_cons_zero, List.set_cons_succ]
        refine take_held 20 (by assumption) rfl (by kernel_rfl) (by kernel_rfl) (by kernel_rfl) (fun _ _ _ h => h) (by kernel_rfl) (v := ?v51) ?y51 ?r51
        case y51 => (intro u hu; have := kKB u hu; go_simp; try rfl)
        simp only [Act.put, List.setIfInBounds_toArray, List.set_cons_zero, List.set_cons_succ]
        refine take_held 21 (by assumption) rfl (by kernel_rfl) (by kernel_rfl) (by kernel_rfl) (fun _ _ _ h => h) (by kernel_rfl) (v := ?v52) ?y52 ?r52
        case y52 => (intro u hu; go_simp; try rfl)
        simp only [Act.put, List.setIfInBounds_toArray, List.set_cons_zero, List.set_cons_succ]
        refine take_held 22 (by assumption) rfl (by kernel_rfl) (by kernel_rfl) (by kernel_rfl) (fun _ _ _ h => h) (by kernel_rfl) (v := ?v53) ?y53 ?r53
        case y53 => (intro u hu; go_simp; try rfl)
        simp only [Act.put, List.setIfInBounds_toArray, List.set_cons_zero, List.set_cons_succ]
        refine take_held 23 (by assumption) rfl (by kernel_rfl) (by kernel_rfl) (by kernel_rfl) (fun _ _ _ h => h) (by kernel_rfl) (v := ?v54) ?y54 ?r54
        case y54 => (intro u hu; have := kBb u hu; go_simp; try rfl)
        simp only [Act.put, List.setIfInBounds_toArray, List.set_cons_zero, List.set_cons_succ]
        refine take_held 24 (by assumption) rfl (by kernel_rfl) (by kernel_rfl) (by kernel_rfl) (fun _ _ _ h => h) (by kernel_rfl) (v := ?v55) ?y55 ?r55
        case y55 => (intro u hu; have := sP u hu; go_simp; try rfl)
        simp only [Act.put, List.setIfInBounds_toArray, List.set_cons_zero, List.set_cons_succ]
        refine take_held 25 (by assumption) rfl (by kernel_rfl) (by kernel_rfl) (by kernel_rfl) (fun _ _ _ h => h) (by kernel_rfl) (v := ?v56) ?y56 ?r56
        case y56 => (intro u hu; go_simp; try rfl)
        simp only [Act.put, List.setIfInBounds_toArray, List.set_cons_zero, List.set_cons_succ]
        refine take_held 26 (by assumption) rfl (by kernel_rfl) (by kernel_rfl) (by kernel_rfl) (fun _ _ _ h => h) (by kernel_rfl) (v := ?v57) ?y57 ?r57
        case y57 => (intro u hu; go_simp; try rfl)
        simp only [Act.put, List.setIfInBounds_toArray, List.set_cons_zero, List.set_cons_succ]
        refine wpAnyH_ready (rs := [27]) (by kernel_rfl) (by simp) (AllReadyH.cons ((nth_eq _ 27).trans rfl) ?_ AllReadyH.nil)
        intro K' hK
        refine skip_in hK (by kernel_rfl) (V.drew.setCell ⟨OKB, 0, none⟩ (.bool false)) (by go_simp) (hst false) ?_
        simp only [Act.put, List.setIfInBounds_toArray, List.set_cons_zero, List.set_cons_succ]
        refine done_held (by kernel_rfl) ?_ _
        have hk1 := box_turn hKB (hst false) (fun e => hne1 e.symm)
        have hn1 := box_turn hNB (hst false) (fun e => hne2 e.symm)
        have hfin := (show Hid _ from fin false (fun h => absurd h.2.2 hzz))
        obtain ⟨V1, hV1⟩ : ∃ V1, V.drew.setCell ⟨OKB, 0, none⟩ (.bool false) = V1 := ⟨_, rfl⟩
        rw [hV1] at hk1 hn1 hfin ⊢
        clear hV1
        have ck := hk1.cell
        have cf := hk1.frozen
        have cn := hn1.cell
        have ck2 := (hk1.set (.int .i64 ((k : Int) + 1))).cell
        have cn2 := (hn1.other hne3 (.int .i64 ((k : Int) + 1))).cell
        go_wp2
        go_ret
        obtain ⟨_, b2, q1, q2, q3, q4⟩ := hfin.out
        exact ⟨rfl, b2, q1, q2, q3, fun h => q4 (by simpa using h)⟩
    · have x0 : ((at_ : Int) == (A : Int)) = false := by rw [beq_eq_false_iff_ne]; omega
      go_enter Try.func12, Try.ntmps12
      go_wp2
      refine start_held (S := fun u => Turn (fun q => q = OKB) V u) 28 rfl (by kernel_rfl) (hS) ?_
      simp only [Array.replicate_succ, Array.replicate_zero, List.push_toArray, List.nil_append, List.cons_append]
      refine read_held 0 rfl (by kernel_rfl) (by kernel_rfl) (.bool true) (by have := hok; go_simp) (by assumption) ?_
      simp only [Act.put, List.setIfInBounds_toArray, List.set_cons_zero, List.set_cons_succ]
      refine take_held 1 (by assumption) rfl (by kernel_rfl) (by kernel_rfl) (by kernel_rfl) (fun _ _ _ h => h) (by kernel_rfl) (v := ?v58) ?y58 ?r58
      case y58 => (intro u hu; go_simp; try rfl)
      simp only [Act.put, List.setIfInBounds_toArray, List.set_cons_zero, List.set_cons_succ]
      refine take_held 2 (by assumption) rfl (by kernel_rfl) (by kernel_rfl) (by kernel_rfl) (fun _ _ _ h => h) (by kernel_rfl) (v := ?v59) ?y59 ?r59
      case y59 => (intro u hu; have := kKB u hu; go_simp; try rfl)
      simp only [Act.put, List.setIfInBounds_toArray, List.set_cons_zero, List.set_cons_succ]
      refine take_held 3 (by assumption) rfl (by kernel_rfl) (by kernel_rfl) (by kernel_rfl) (fun _ _ _ h => h) (by kernel_rfl) (v := ?v60) ?y60 ?r60
      case y60 => (intro u hu; have := kWB u hu; go_simp; try rfl)
      simp only [Act.put, List.setIfInBounds_toArray, List.set_cons_zero, List.set_cons_succ]
      refine take_held 4 (by assumption) rfl (by kernel_rfl) (by kernel_rfl) (by kernel_rfl) (fun _ _ _ h => h) (by kernel_rfl) (v := ?v61) ?y61 ?r61
      case y61 => (intro u hu; go_simp; try rfl)
      simp only [Act.put, List.setIfInBounds_toArray, List.set_cons_zero, List.set_cons_succ]
      refine take_held 5 (by assumption) rfl (by kernel_rfl) (by kernel_rfl) (by kernel_rfl) (fun _ _ _ h => h) (by kernel_rfl) (v := ?v62) ?y62 ?r62
      case y62 => (intro u hu; go_simp; try rfl)
      simp only [Act.put, List.setIfInBounds_toArray, List.set_cons_zero, List.set_cons_succ]
      refine take_held 6 (by assumption) rfl (by kernel_rfl) (by kernel_rfl) (by kernel_rfl) (fun _ _ _ h => h) (by kernel_rfl) (v := ?v63) ?y63 ?r63
      case y63 => (intro u hu; go_simp; try rfl)
      simp only [Act.put, List.setIfInBounds_toArray, List.set_cons_zero, List.set_cons_succ]
      refine take_held 7 (by assumption) rfl (by kernel_rfl) (by kernel_rfl) (by kernel_rfl) (fun _ _ _ h => h) (by kernel_rfl) (v := ?v64) ?y64 ?r64
      case y64 => (intro u hu; go_simp; try rfl)
      simp only [Act.put, List.setIfInBounds_toArray, List.set_cons_zero, List.set_cons_succ]
      refine take_held 8 (by assumption) rfl (by kernel_rfl) (by kernel_rfl) (by kernel_rfl) (fun _ _ _ h => h) (by kernel_rfl) (v := ?v65) ?y65 ?r65
      case y65 => (intro u hu; go_simp; try rfl)
      simp only [Act.put, List.setIfInBounds_toArray, List.set_cons_zero, List.set_cons_succ]
      refine take_held 9 (by assumption) rfl (by kernel_rfl) (by kernel_rfl) (by kernel_rfl) (fun _ _ _ h => h) (by kernel_rfl) (v := ?v66) ?y66 ?r66
      case y66 => (intro u hu; have := kWB u hu; go_simp; try rfl)
      simp only [Act.put, List.setIfInBounds_toArray, List.set_cons_zero, List.set_cons_succ]
      refine take_held 10 (by assumption) rfl (by kernel_rfl) (by kernel_rfl) (by kernel_rfl) (fun _ _ _ h => h) (by kernel_rfl) (v := ?v67) ?y67 ?r67
      case y67 => (intro u hu; have := kKB u hu; go_simp; try rfl)
      simp only [Act.put, List.setIfInBounds_toArray, List.set_cons_zero, List.set_cons_succ]
      refine take_held 11 (by assumption) rfl (by kernel_rfl) (by kernel_rfl) (by kernel_rfl) (fun _ _ _ h => h) (by kernel_rfl) (v := ?v68) ?y68 ?r68
      case y68 => (intro u hu; go_simp; try rfl)
      simp only [Act.put, List.setIfInBounds_toArray, List.set_cons_zero, List.set_cons_succ]
      refine take_held 12 (by assumption) rfl (by kernel_rfl) (by kernel_rfl) (by kernel_rfl) (fun _ _ _ h => h) (by kernel_rfl) (v := ?v69) ?y69 ?r69
      case y69 => (intro u hu; go_simp; try rfl)
      simp only [Act.put, List.setIfInBounds_toArray, List.set_cons_zero, List.set_cons_succ]
      refine take_held 13 (by assumption) rfl (by kernel_rfl) (by kernel_rfl) (by kernel_rfl) (fun _ _ _ h => h) (by kernel_rfl) (v := ?v70) ?y70 ?r70
      case y70 => (intro u hu; have := kAt u hu; go_simp; try rfl)
      simp only [Act.put, List.setIfInBounds_toArray, List.set_cons_zero, List.set_cons_succ]
      refine take_held 14 (by assumption) rfl (by kernel_rfl) (by kernel_rfl) (by kernel_rfl) (fun _ _ _ h => h) (by kernel_rfl) (v := ?v71) ?y71 ?r71
      case y71 => (intro u hu; go_simp; try rfl)
      simp only [Act.put, List.setIfInBounds_toArray, List.set_cons_zero, List.set_cons_succ]
      refine take_held 15 (by assumption) rfl (by kernel_rfl) (by kernel_rfl) (by kernel_rfl) (fun _ _ _ h => h) (by kernel_rfl) (v := ?v72) ?y72 ?r72
      case y72 => (intro u hu; go_simp; try rfl)
      simp only [Act.put, List.setIfInBounds_toArray, List.set_cons_zero, List.set_cons_succ]
      refine take_held 16 (by assumption) rfl (by kernel_rfl) (by kernel_rfl) (by kernel_rfl) (fun _ _ _ h => h) (by kernel_rfl) (v := ?v73) ?y73 ?r73
      case y73 => (intro u hu; go_simp; try rfl)
      simp only [Act.put, List.setIfInBounds_toArray, List.set_cons_zero, List.set_cons_succ]
      refine skip_held 17 (by assumption) rfl (by kernel_rfl) (by kernel_rfl) (by kernel_rfl) (fun _ _ _ h => h) (by kernel_rfl) ?_
      simp only [Act.put, List.setIfInBounds_toArray, List.set_cons_zero, List.set_cons_succ]
      refine skip_held 18 (by assumption) rfl (by kernel_rfl) (by kernel_rfl) (by kernel_rfl) (fun _ _ _ h => h) (by kernel_rfl) ?_
      simp only [Act.put, List.setIfInBounds_toArray, List.set_cons_zero, List.set_cons_succ]
      refine skip_held 19 (by assumption) rfl (by kernel_rfl) (by kernel_rfl) (by kernel_rfl) (fun _ _ _ h => h) (by kernel_rfl) ?_
      simp only [Act.put, List.setIfInBounds_toArray, List.set_cons_zero, List.set_cons_succ]
      refine skip_held 20 (by assumption) rfl (by kernel_rfl) (by kernel_rfl) (by kernel_rfl) (fun _ _ _ h => h) (by kernel_rfl) ?_
      simp only [Act.put, List.setIfInBounds_toArray, List.set_cons_zero, List.set_cons_succ]
      refine skip_held 21 (by assumption) rfl (by kernel_rfl) (by kernel_rfl) (by kernel_rfl) (fun _ _ _ h => h) (by kernel_rfl) ?_
      simp only [Act.put, List.setIfInBounds_toArray, List.set_cons_zero, List.set_cons_succ]
      refine skip_held 22 (by assumption) rfl (by kernel_rfl) (by kernel_rfl) (by kernel_rfl) (fun _ _ _ h => h) (by kernel_rfl) ?_
      simp only [Act.put, List.setIfInBounds_toArray, List.set_cons_zero, List.set_cons_succ]
      refine skip_held 23 (by assumption) rfl (by kernel_rfl) (by kernel_rfl) (by kernel_rfl) (fun _ _ _ h => h) (by kernel_rfl) ?_
      simp only [Act.put, List.setIfInBounds_toArray, List.set_cons_zero, List.set_cons_succ]
      refine skip_held 24 (by assumption) rfl (by kernel_rfl) (by kernel_rfl) (by kernel_rfl) (fun _ _ _ h => h) (by kernel_rfl) ?_
      simp only [Act.put, List.setIfInBounds_toArray, List.set_cons_zero, List.set_cons_succ]
      refine skip_held 25 (by assumption) rfl (by kernel_rfl) (by kernel_rfl) (by kernel_rfl) (fun _ _ _ h => h) (by kernel_rfl) ?_
      simp only [Act.put, List.setIfInBounds_toArray, List.set_cons_zero, List.set_cons_succ]
      refine take_held 26 (by assumption) rfl (by kernel_rfl) (by kernel_rfl) (by kernel_rfl) (fun _ _ _ h => h) (by kernel_rfl) (v := ?v74) ?y74 ?r74
      case y74 => (intro u hu; go_simp; try rfl)
      simp only [Act.put, List.setIfInBounds_toArray, List.set_cons_zero, List.set_cons_succ]
      refine wpAnyH_ready (rs := [27]) (by kernel_rfl) (by simp) (AllReadyH.cons ((nth_eq _ 27).trans rfl) ?_ AllReadyH.nil)
      intro K' hK
      refine skip_in hK (by kernel_rfl) (V.drew.setCell ⟨OKB, 0, none⟩ (.bool false)) (by go_simp) (hst false) ?_
      simp only [Act.put, List.setIfInBounds_toArray, List.set_cons_zero, List.set_cons_succ]
      refine done_held (by kernel_rfl) ?_ _
      have hk1 := box_turn hKB (hst false) (fun e => hne1 e.symm)
      have hn1 := box_turn hNB (hst false) (fun e => hne2 e.symm)
      have hfin := (show Hid _ from fin false (fun h => absurd h.2.1 hat))
      obtain ⟨V1, hV1⟩ : ∃ V1, V.drew.setCell ⟨OKB, 0, none⟩ (.bool false) = V1 := ⟨_, rfl⟩
      rw [hV1] at hk1 hn1 hfin ⊢
      clear hV1
      have ck := hk1.cell
      have cf := hk1.frozen
      have cn := hn1.cell
      have ck2 := (hk1.set (.int .i64 ((k : Int) + 1))).cell
      have cn2 := (hn1.other hne3 (.int .i64 ((k : Int) + 1))).cell
      go_wp2
      go_ret
      obtain ⟨_, b2, q1, q2, q3, q4⟩ := hfin.out
      exact ⟨rfl, b2, q1, q2, q3, fun h => q4 (by simpa using h)⟩
end Go.Proofs.Ytnehkjabhmhijaa.Wal
