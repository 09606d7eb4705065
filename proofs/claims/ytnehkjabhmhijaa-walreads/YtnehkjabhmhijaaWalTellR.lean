/-
  The function that the law WalReads hands over: what it does with each record that it is told.
-/
import Derived.Test.YtnehkjabhmhijaaWalIter3
namespace Go.Proofs.Ytnehkjabhmhijaa.Wal
set_option linter.unusedVariables false
set_option linter.unusedSimpArgs false
open Go Go.RowKit Go.Shelf Go.Proofs
open Go.Proofs.Ytnehkjabhmhijaa.Disk (Row getD_in ret_int add_add DiskIs Kept St now setSt owns_row owns_same)

def CN (OKB NB AB : Nat) : Nat → Prop := fun q => q = OKB ∨ q = NB ∨ q = AB

set_option maxRecDepth 100000 in
set_option maxHeartbeats 4000000 in
theorem tellR_any (w0 V : World) (OKB NB SB AB k N sc l' c' : Nat) (at_ q : Int) (b : Bool) (sa a' : Option Addr) (ps : List Piece) (zs' : List Int) (hB : Below w0.heap.size w0 V) (hT : Texts w0 sa N ps) (hOl : w0.heap.size ≤ OKB)
    (hOK : Boxed V OKB 4 (.bool b)) (hNB : Boxed V NB 3 (.int .i64 k)) (hSB : Boxed w0 SB 27 (.slice sa N sc)) (hAB : Boxed V AB 3 (.int .i64 q)) (hna : NB ≠ AB) (hk : k < N) (hN : N ≤ 100000) (q0 : 0 ≤ q) (q1 : q ≤ 1000000000) (hr : Row V a' l' zs') (hl' : 1 ≤ l') (hl2 : l' ≤ 65536) :
    Calls Try.prog 17 #[.int .i64 at_, .slice a' l' c', .pointer (Option.some ⟨OKB, 0, none⟩), .pointer (Option.some ⟨NB, 0, none⟩), .pointer (Option.some ⟨SB, 0, none⟩), .pointer (Option.some ⟨AB, 0, none⟩)] V fun e V' =>
      ∃ b', e = .returned (.bool b') ∧ Boxed V' OKB 4 (.bool b') ∧ Boxed V' NB 3 (.int .i64 ((k : Int) + 1)) ∧ Boxed V' AB 3 (.int .i64 (q + 8 + l')) ∧ Turn (CN OKB NB AB) V V' ∧ (b = true ∧ at_ = q ∧ (ps[k]?.map Piece.zs) = Option.some zs' → b' = true) := by
  have hpl := hT.len
  have hne1 : OKB ≠ NB := box_ne hOK hNB (by decide)
  have hne2 : OKB ≠ AB := box_ne hOK hAB (by decide)
  have hne3 : AB ≠ NB := fun e => hna e.symm
  have hSl := hSB.lt
  have hSV := boxed_after hSB hB
  obtain ⟨x, rfl, hc0, hi0⟩ := hT.get k (by omega)
  have hxl := World.block_lt_of_cell? w0 _ hc0
  have hc := (hB.cell hxl).trans hc0
  have hplt := hi0.row.lt
  have hrP := hi0.row.after hB
  have hPs := hi0.row.small
  rw [List.getElem?_eq_getElem (show k < ps.length by omega), Option.map_some]
  generalize ps[k] = P at *
  have hS : Turn (fun q => q = OKB) V V.drew := ⟨rfl, rfl, rfl, Nat.le_refl _, fun _ _ _ => rfl⟩
  have hst : ∀ b', Turn (fun q => q = OKB) V (V.drew.setCell ⟨OKB, 0, none⟩ (.bool b')) := fun b' => ⟨rfl, rfl, rfl, by simp [World.setCell], fun q hq hn => Below.heap_setCell _ _ _ q hn⟩
  have hok : V.drew.cell? ⟨OKB, 0, none⟩ = Option.some (.bool b) := hOK.cell
  have hof : V.drew.frozen? ⟨OKB, 0, none⟩ = false := hOK.frozen
  have kNB : ∀ u, Turn (fun q => q = OKB) V u → u.cell? ⟨NB, 0, none⟩ = Option.some (.int .i64 k) := fun u hu => (box_turn hNB hu (fun e => hne1 e.symm)).cell
  have kAB : ∀ u, Turn (fun q => q = OKB) V u → u.cell? ⟨AB, 0, none⟩ = Option.some (.int .i64 q) := fun u hu => (box_turn hAB hu (fun e => hne2 e.symm)).cell
  have kSB : ∀ u, Turn (fun q => q = OKB) V u → u.cell? ⟨SB, 0, none⟩ = Option.some (.slice (Option.some x) N sc) := fun u hu => (box_turn hSV hu (by omega)).cell
  have kPc : ∀ u, Turn (fun q => q = OKB) V u → u.cell? (x.add k) = Option.some (.slice P.a P.zs.length P.cap) := fun u hu => (cell_block (hu.block _ (World.block_lt_of_cell? V _ hc) (by omega))).trans hc
  have sP : ∀ u, Turn (fun q => q = OKB) V u → (convert 22 9 (.slice P.a P.zs.length P.cap)).run Try.prog u = _ := fun u hu => Disk.conv_row (show Row u P.a P.zs.length P.zs from ⟨hrP.len, hrP.small, fun i hi => by
    obtain ⟨y, hy, hcy⟩ := hrP.cell i hi
    have hyl := hplt y hy (by omega)
    exact ⟨y, hy, (cell_block (by rw [Disk.block_add]; exact hu.block _ (Nat.lt_of_lt_of_le hyl hB.size) (by omega))).trans hcy⟩⟩) _
  have sX : ∀ u, Turn (fun q => q = OKB) V u → (convert 22 9 (.slice a' l' c')).run Try.prog u = _ := fun u hu => Disk.conv_row (Row.block hr (fun y hy => hu.block _ (hr.lt y hy (by omega)) (row_apart hr hl' hOK y hy))) _
  have t0 : (k : Int) < (N : Int) := by omega
  have hXs := hr.small
  have hli : (l' : Int) ≤ 65536 := by omega
  clear hc hc0 hi0 hrP hplt hxl
  generalize P.a = pa at *
  generalize P.cap = pc at *
  generalize hpz : P.zs = pz at *
  generalize pz.length = pl at *
  cases b with
  | false =>
    go_enter Try.func17, Try.ntmps17
    go_wp2
    refine start_held (S := fun u => Turn (fun q => q = OKB) V u) 23 rfl (by kernel_rfl) (hS) ?_
    simp only [Array.replicate_succ, Array.replicate_zero, List.push_toArray, List.nil_append, List.cons_append]
    refine read_held 0 rfl (by kernel_rfl) (by kernel_rfl) (.bool false) (by have := hok; go_simp) (by assumption) ?_
    simp only [Act.put, List.setIfInBounds_toArray, List.set_cons_zero, List.set_cons_succ]
    refine take_held 1 (by assumption) rfl (by kernel_rfl) (by kernel_rfl) (by kernel_rfl) (fun _ _ _ h => h) (by kernel_rfl) (v := ?v0) ?y0 ?r0
    case y0 => (intro u hu; go_simp; try rfl)
    simp only [Act.put, List.setIfInBounds_toArray, List.set_cons_zero, List.set_cons_succ]
    refine skip_held 2 (by assumption) rfl (by kernel_rfl) (by kernel_rfl) (by kernel_rfl) (fun _ _ _ h => h) (by kernel_rfl) ?_
    simp only [Act.put, List.setIfInBounds_toArray, List.set_cons_zero, List.set_cons_succ]
    refine skip_held 3 (by assumption) rfl (by kernel_rfl) (by kernel_rfl) (by kernel_rfl) (fun _ _ _ h => h) (by kernel_rfl) ?_
    simp only [Act.put, List.setIfInBounds_toArray, List.set_cons_zero, List.set_cons_succ]
    refine skip_held 4 (by assumption) rfl (by kernel_rfl) (by kernel_rfl) (by kernel_rfl) (fun _ _ _ h => h) (by kernel_rfl) ?_
    simp only [Act.put, List.setIfInBounds_toArray, List.set_cons_zero, List.set_cons_succ]
    refine skip_held 5 (by assumption) rfl (by kernel_rfl) (by kernel_rfl) (by kernel_rfl) (fun _ _ _ h => h) (by kernel_rfl) ?_
    simp only [Act.put, List.setIfInBounds_toArray, List.set_cons_zero, List.set_cons_succ]
    refine take_held 6 (by assumption) rfl (by kernel_rfl) (by kernel_rfl) (by kernel_rfl) (fun _ _ _ h => h) (by kernel_rfl) (v := ?v1) ?y1 ?r1
    case y1 => (intro u hu; go_simp; try rfl)
    simp only [Act.put, List.setIfInBounds_toArray, List.set_cons_zero, List.set_cons_succ]
    refine take_held 7 (by assumption) rfl (by kernel_rfl) (by kernel_rfl) (by kernel_rfl) (fun _ _ _ h => h) (by kernel_rfl) (v := ?v2) ?y2 ?r2
    case y2 => (intro u hu; go_simp; try rfl)
    simp only [Act.put, List.setIfInBounds_toArray, List.set_cons_zero, List.set_cons_succ]
    refine skip_held 8 (by assumption) rfl (by kernel_rfl) (by kernel_rfl) (by kernel_rfl) (fun _ _ _ h => h) (by kernel_rfl) ?_
    simp only [Act.put, List.setIfInBounds_toArray, List.set_cons_zero, List.set_cons_succ]
    refine skip_held 9 (by assumption) rfl (by kernel_rfl) (by kernel_rfl) (by kernel_rfl) (fun _ _ _ h => h) (by kernel_rfl) ?_
    simp only [Act.put, List.setIfInBounds_toArray, List.set_cons_zero, List.set_cons_succ]
    refine skip_held 10 (by assumption) rfl (by kernel_rfl) (by kernel_rfl) (by kernel_rfl) (fun _ _ _ h => h) (by kernel_rfl) ?_
    simp only [Act.put, List.setIfInBounds_toArray, List.set_cons_zero, List.set_cons_succ]
    refine take_held 11 (by assumption) rfl (by kernel_rfl) (by kernel_rfl) (by kernel_rfl) (fun _ _ _ h => h) (by kernel_rfl) (v := ?v3) ?y3 ?r3
    case y3 => (intro u hu; go_simp; try rfl)
    simp only [Act.put, List.setIfInBounds_toArray, List.set_cons_zero, List.set_cons_succ]
    refine take_held 12 (by assumption) rfl (by kernel_rfl) (by kernel_rfl) (by kernel_rfl) (fun _ _ _ h => h) (by kernel_rfl) (v := ?v4) ?y4 ?r4
    case y4 => (intro u hu; go_simp; try rfl)
    simp only [Act.put, List.setIfInBounds_toArray, List.set_cons_zero, List.set_cons_succ]
    refine skip_held 13 (by assumption) rfl (by kernel_rfl) (by kernel_rfl) (by kernel_rfl) (fun _ _ _ h => h) (by kernel_rfl) ?_
    simp only [Act.put, List.setIfInBounds_toArray, List.set_cons_zero, List.set_cons_succ]
    refine skip_held 14 (by assumption) rfl (by kernel_rfl) (by kernel_rfl) (by kernel_rfl) (fun _ _ _ h => h) (by kernel_rfl) ?_
    simp only [Act.put, List.setIfInBounds_toArray, List.set_cons_zero, List.set_cons_succ]
    refine skip_held 15 (by assumption) rfl (by kernel_rfl) (by kernel_rfl) (by kernel_rfl) (fun _ _ _ h => h) (by kernel_rfl) ?_
    simp only [Act.put, List.setIfInBounds_toArray, List.set_cons_zero, List.set_cons_succ]
    refine skip_held 16 (by assumption) rfl (by kernel_rfl) (by kernel_rfl) (by kernel_rfl) (fun _ _ _ h => h) (by kernel_rfl) ?_
    simp only [Act.put, List.setIfInBounds_toArray, List.set_cons_zero, List.set_cons_succ]
    refine skip_held 17 (by assumption) rfl (by kernel_rfl) (by kernel_rfl) (by kernel_rfl) (fun _ _ _ h => h) (by kernel_rfl) ?_
    simp only [Act.put, List.setIfInBounds_toArray, List.set_cons_zero, List.set_cons_succ]
    refine skip_held 18 (by assumption) rfl (by kernel_rfl) (by kernel_rfl) (by kernel_rfl) (fun _ _ _ h => h) (by kernel_rfl) ?_
    simp only [Act.put, List.setIfInBounds_toArray, List.set_cons_zero, List.set_cons_succ]
    refine skip_held 19 (by assumption) rfl (by kernel_rfl) (by kernel_rfl) (by kernel_rfl) (fun _ _ _ h => h) (by kernel_rfl) ?_
    simp only [Act.put, List.setIfInBounds_toArray, List.set_cons_zero, List.set_cons_succ]
    refine skip_held 20 (by assumption) rfl (by kernel_rfl) (by kernel_rfl) (by kernel_rfl) (fun _ _ _ h => h) (by kernel_rfl) ?_
    simp only [Act.put, List.setIfInBounds_toArray, List.set_cons_zero, List.set_cons_succ]
    refine take_held 21 (by assumption) rfl (by kernel_rfl) (by kernel_rfl) (by kernel_rfl) (fun _ _ _ h => h) (by kernel_rfl) (v := ?v5) ?y5 ?r5
    case y5 => (intro u hu; go_simp; try rfl)
    simp only [Act.put, List.setIfInBounds_toArray, List.set_cons_zero, List.set_cons_succ]
    refine wpAnyH_ready (rs := [22]) (by kernel_rfl) (by simp) (AllReadyH.cons ((nth_eq _ 22).trans rfl) ?_ AllReadyH.nil)
    intro K' hK
    refine skip_in hK (by kernel_rfl) (V.drew.setCell ⟨OKB, 0, none⟩ (.bool false)) (by go_simp) (hst false) ?_
    simp only [Act.put, List.setIfInBounds_toArray, List.set_cons_zero, List.set_cons_succ]
    refine done_held (by kernel_rfl) ?_ _
    have hn1 := box_turn hNB (hst false) (fun e => hne1 e.symm)
    have ha1 := box_turn hAB (hst false) (fun e => hne2 e.symm)
    have ho1 : Boxed (V.drew.setCell ⟨OKB, 0, none⟩ (.bool false)) OKB 4 (.bool false) := (show Boxed V.drew OKB 4 _ from hOK).set (.bool false)
    have hT1 := hst false
    obtain ⟨V1, hV1⟩ : ∃ V1, V.drew.setCell ⟨OKB, 0, none⟩ (.bool false) = V1 := ⟨_, rfl⟩
    rw [hV1] at hn1 ha1 ho1 hT1 ⊢
    clear hV1
    have ca := ha1.cell
    have cf := ha1.frozen
    have ha2 := ha1.set (.int .i64 (q + 8 + l'))
    have hn2 := hn1.other hna (.int .i64 (q + 8 + l'))
    have ho2 := ho1.other hne2 (.int .i64 (q + 8 + l'))
    have cn := hn2.cell
    have cnf := hn2.frozen
    have hn3 := hn2.set (.int .i64 ((k : Int) + 1))
    have ha3 := ha2.other hne3 (.int .i64 ((k : Int) + 1))
    have ho3 := ho2.other hne1 (.int .i64 ((k : Int) + 1))
    have co := ho3.cell
    go_wp2
    go_ret
    refine ⟨false, rfl, ho3, hn3, ha3, ⟨hT1.os, hT1.tape, hT1.output, Nat.le_trans hT1.size (by simp [World.setCell]), fun z hz hn => ?_⟩, fun h => (by cases h.1)⟩
    rw [Below.heap_setCell _ _ _ z (fun e => hn (.inr (.inl e))), Below.heap_setCell _ _ _ z (fun e => hn (.inr (.inr e)))]
    exact hT1.block z hz (fun e => hn (.inl e))
  | true =>
    by_cases hat : at_ = q
    · subst hat
      by_cases hzz : zs' = pz
      · subst hzz
        generalize strOfNums zs' = s at *
        go_enter Try.func17, Try.ntmps17
        go_wp2
        refine start_held (S := fun u => Turn (fun q => q = OKB) V u) 23 rfl (by kernel_rfl) (hS) ?_
        simp only [Array.replicate_succ, Array.replicate_zero, List.push_toArray, List.nil_append, List.cons_append]
        refine read_held 0 rfl (by kernel_rfl) (by kernel_rfl) (.bool true) (by have := hok; go_simp) (by assumption) ?_
        simp only [Act.put, List.setIfInBounds_toArray, List.set_cons_zero, List.set_cons_succ]
        refine take_held 1 (by assumption) rfl (by kernel_rfl) (by kernel_rfl) (by kernel_rfl) (fun _ _ _ h => h) (by kernel_rfl) (v := ?v6) ?y6 ?r6
        case y6 => (intro u hu; go_simp; try rfl)
        simp only [Act.put, List.setIfInBounds_toArray, List.set_cons_zero, List.set_cons_succ]
        refine take_held 2 (by assumption) rfl (by kernel_rfl) (by kernel_rfl) (by kernel_rfl) (fun _ _ _ h => h) (by kernel_rfl) (v := ?v7) ?y7 ?r7
        case y7 => (intro u hu; have := kNB u hu; go_simp; try rfl)
        simp only [Act.put, List.setIfInBounds_toArray, List.set_cons_zero, List.set_cons_succ]
        refine take_held 3 (by assumption) rfl (by kernel_rfl) (by kernel_rfl) (by kernel_rfl) (fun _ _ _ h => h) (by kernel_rfl) (v := ?v8) ?y8 ?r8
        case y8 => (intro u hu; have := kSB u hu; go_simp; try rfl)
        simp only [Act.put, List.setIfInBounds_toArray, List.set_cons_zero, List.set_cons_succ]
        refine take_held 4 (by assumption) rfl (by kernel_rfl) (by kernel_rfl) (by kernel_rfl) (fun _ _ _ h => h) (by kernel_rfl) (v := ?v9) ?y9 ?r9
        case y9 => (intro u hu; go_simp; try rfl)
        simp only [Act.put, List.setIfInBounds_toArray, List.set_cons_zero, List.set_cons_succ]
        refine take_held 5 (by assumption) rfl (by kernel_rfl) (by kernel_rfl) (by kernel_rfl) (fun _ _ _ h => h) (by kernel_rfl) (v := ?v10) ?y10 ?r10
        case y10 => (intro u hu; go_simp; try rfl)
        simp only [Act.put, List.setIfInBounds_toArray, List.set_cons_zero, List.set_cons_succ]
        refine take_held 6 (by assumption) rfl (by kernel_rfl) (by kernel_rfl) (by kernel_rfl) (fun _ _ _ h => h) (by kernel_rfl) (v := ?v11) ?y11 ?r11
        case y11 => (intro u hu; go_simp; try rfl)
        simp only [Act.put, List.setIfInBounds_toArray, List.set_cons_zero, List.set_cons_succ]
        refine take_held 7 (by assumption) rfl (by kernel_rfl) (by kernel_rfl) (by kernel_rfl) (fun _ _ _ h => h) (by kernel_rfl) (v := ?v12) ?y12 ?r12
        case y12 => (intro u hu; go_simp; try rfl)
        simp only [Act.put, List.setIfInBounds_toArray, List.set_cons_zero, List.set_cons_succ]
        refine take_held 8 (by assumption) rfl (by kernel_rfl) (by kernel_rfl) (by kernel_rfl) (fun _ _ _ h => h) (by kernel_rfl) (v := ?v13) ?y13 ?r13
        case y13 => (intro u hu; go_simp; try rfl)
        simp only [Act.put, List.setIfInBounds_toArray, List.set_cons_zero, List.set_cons_succ]
        refine take_held 9 (by assumption) rfl (by kernel_rfl) (by kernel_rfl) (by kernel_rfl) (fun _ _ _ h => h) (by kernel_rfl) (v := ?v14) ?y14 ?r14
        case y14 => (intro u hu; have := kAB u hu; go_simp; try rfl)
        simp only [Act.put, List.setIfInBounds_toArray, List.set_cons_zero, List.set_cons_succ]
        refine take_held 10 (by assumption) rfl (by kernel_rfl) (by kernel_rfl) (by kernel_rfl) (fun _ _ _ h => h) (by kernel_rfl) (v := ?v15) ?y15 ?r15
        case y15 => (intro u hu; go_simp; try rfl)
        simp only [Act.put, List.setIfInBounds_toArray, List.set_cons_zero, List.set_cons_succ]
        refine take_held 11 (by assumption) rfl (by kernel_rfl) (by kernel_rfl) (by kernel_rfl) (fun _ _ _ h => h) (by kernel_rfl) (v := ?v16) ?y16 ?r16
        case y16 => (intro u hu; go_simp; try rfl)
        simp only [Act.put, List.setIfInBounds_toArray, List.set_cons_zero, List.set_cons_succ]
        refine take_held 12 (by assumption) rfl (by kernel_rfl) (by kernel_rfl) (by kernel_rfl) (fun _ _ _ h => h) (by kernel_rfl) (v := ?v17) ?y17 ?r17
        case y17 => (intro u hu; go_simp; try rfl)
        simp only [Act.put, List.setIfInBounds_toArray, List.set_cons_zero, List.set_cons_succ]
        refine take_held 13 (by assumption) rfl (by kernel_rfl) (by kernel_rfl) (by kernel_rfl) (fun _ _ _ h => h) (by kernel_rfl) (v := ?v18) ?y18 ?r18
        case y18 => (intro u hu; go_simp; try rfl)
        simp only [Act.put, List.setIfInBounds_toArray, List.set_cons_zero, List.set_cons_succ]
        refine take_held 14 (by assumption) rfl (by kernel_rfl) (by kernel_rfl) (by kernel_rfl) (fun _ _ _ h => h) (by kernel_rfl) (v := ?v19) ?y19 ?r19
        case y19 => (intro u hu; have := sX u hu; go_simp; try rfl)
        simp only [Act.put, List.setIfInBounds_toArray, List.set_cons_zero, List.set_cons_succ]
        refine take_held 15 (by assumption) rfl (by kernel_rfl) (by kernel_rfl) (by kernel_rfl) (fun _ _ _ h => h) (by kernel_rfl) (v := ?v20) ?y20 ?r20
        case y20 => (intro u hu; have := kSB u hu; go_simp; try rfl)
        simp only [Act.put, List.setIfInBounds_toArray, List.set_cons_zero, List.set_cons_succ]
        refine take_held 16 (by assumption) rfl (by kernel_rfl) (by kernel_rfl) (by kernel_rfl) (fun _ _ _ h => h) (by kernel_rfl) (v := ?v21) ?y21 ?r21
        case y21 => (intro u hu; have := kNB u hu; go_simp; try rfl)
        simp only [Act.put, List.setIfInBounds_toArray, List.set_cons_zero, List.set_cons_succ]
        refine take_held 17 (by assumption) rfl (by kernel_rfl) (by kernel_rfl) (by kernel_rfl) (fun _ _ _ h => h) (by kernel_rfl) (v := ?v22) ?y22 ?r22
        case y22 => (intro u hu; go_simp; try rfl)
        simp only [Act.put, List.setIfInBounds_toArray, List.set_cons_zero, List.set_cons_succ]
        refine take_held 18 (by assumption) rfl (by kernel_rfl) (by kernel_rfl) (by kernel_rfl) (fun _ _ _ h => h) (by kernel_rfl) (v := ?v23) ?y23 ?r23
        case y23 => (intro u hu; have := kPc u hu; go_simp; try rfl)
        simp only [Act.put, List.setIfInBounds_toArray, List.set_cons_zero, List.set_cons_succ]
        refine take_held 19 (by assumption) rfl (by kernel_rfl) (by kernel_rfl) (by kernel_rfl) (fun _ _ _ h => h) (by kernel_rfl) (v := ?v24) ?y24 ?r24
        case y24 => (intro u hu; have := sP u hu; go_simp; try rfl)
        simp only [Act.put, List.setIfInBounds_toArray, List.set_cons_zero, List.set_cons_succ]
        refine take_held 20 (by assumption) rfl (by kernel_rfl) (by kernel_rfl) (by kernel_rfl) (fun _ _ _ h => h) (by kernel_rfl) (v := ?v25) ?y25 ?r25
        case y25 => (intro u hu; go_simp; try rfl)
        simp only [Act.put, List.setIfInBounds_toArray, List.set_cons_zero, List.set_cons_succ]
        refine take_held 21 (by assumption) rfl (by kernel_rfl) (by kernel_rfl) (by kernel_rfl) (fun _ _ _ h => h) (by kernel_rfl) (v := ?v26) ?y26 ?r26
        case y26 => (intro u hu; go_simp; try rfl)
        simp only [Act.put, List.setIfInBounds_toArray, List.set_cons_zero, List.set_cons_succ]
        refine wpAnyH_ready (rs := [22]) (by kernel_rfl) (by simp) (AllReadyH.cons ((nth_eq _ 22).trans rfl) ?_ AllReadyH.nil)
        intro K' hK
        refine skip_in hK (by kernel_rfl) (V.drew.setCell ⟨OKB, 0, none⟩ (.bool true)) (by go_simp) (hst true) ?_
        simp only [Act.put, List.setIfInBounds_toArray, List.set_cons_zero, List.set_cons_succ]
        refine done_held (by kernel_rfl) ?_ _
        have hn1 := box_turn hNB (hst true) (fun e => hne1 e.symm)
        have ha1 := box_turn hAB (hst true) (fun e => hne2 e.symm)
        have ho1 : Boxed (V.drew.setCell ⟨OKB, 0, none⟩ (.bool true)) OKB 4 (.bool true) := (show Boxed V.drew OKB 4 _ from hOK).set (.bool true)
        have hT1 := hst true
        obtain ⟨V1, hV1⟩ : ∃ V1, V.drew.setCell ⟨OKB, 0, none⟩ (.bool true) = V1 := ⟨_, rfl⟩
        rw [hV1] at hn1 ha1 ho1 hT1 ⊢
        clear hV1
        have ca := ha1.cell
        have cf := ha1.frozen
        have ha2 := ha1.set (.int .i64 (at_ + 8 + l'))
        have hn2 := hn1.other hna (.int .i64 (at_ + 8 + l'))
        have ho2 := ho1.other hne2 (.int .i64 (at_ + 8 + l'))
        have cn := hn2.cell
        have cnf := hn2.frozen
        have hn3 := hn2.set (.int .i64 ((k : Int) + 1))
        have ha3 := ha2.other hne3 (.int .i64 ((k : Int) + 1))
        have ho3 := ho2.other hne1 (.int .i64 ((k : Int) + 1))
        have co := ho3.cell
        go_wp2
        go_ret
        refine ⟨true, rfl, ho3, hn3, ha3, ⟨hT1.os, hT1.tape, hT1.output, Nat.le_trans hT1.size (by simp [World.setCell]), fun z hz hn => ?_⟩, fun _ => rfl⟩
        rw [Below.heap_setCell _ _ _ z (fun e => hn (.inr (.inl e))), Below.heap_setCell _ _ _ z (fun e => hn (.inr (.inr e)))]
        exact hT1.block z hz (fun e => hn (.inl e))
      · have hne := Disk.str_ne zs' pz hXs hPs hzz
        have hzz' : ¬ (Option.some pz = Option.some zs') := fun e => hzz (Option.some.inj e).symm
        generalize strOfNums zs' = s at *
        generalize strOfNums pz = s' at *
        go_enter Try.func17, Try.ntmps17
        go_wp2
        refine start_held (S := fun u => Turn (fun q => q = OKB) V u) 23 rfl (by kernel_rfl) (hS) ?_
        simp only [Array.replicate_succ, Array.replicate_zero, List.push_toArray, List.nil_append, List.cons_append]
        refine read_held 0 rfl (by kernel_rfl) (by kernel_rfl) (.bool true) (by have := hok; go_simp) (by assumption) ?_
        simp only [Act.put, List.setIfInBounds_toArray, List.set_cons_zero, List.set_cons_succ]
        refine take_held 1 (by assumption) rfl (by kernel_rfl) (by kernel_rfl) (by kernel_rfl) (fun _ _ _ h => h) (by kernel_rfl) (v := ?v27) ?y27 ?r27
        case y27 => (intro u hu; go_simp; try rfl)
        simp only [Act.put, List.setIfInBounds_toArray, List.set_cons_zero, List.set_cons_succ]
        refine take_held 2 (by assumption) rfl (by kernel_rfl) (by kernel_rfl) (by kernel_rfl) (fun _ _ _ h => h) (by kernel_rfl) (v := ?v28) ?y28 ?r28
        case y28 => (intro u hu; have := kNB u hu; go_simp; try rfl)
        simp only [Act.put, List.setIfInBounds_toArray, List.set_cons_zero, List.set_cons_succ]
        refine take_held 3 (by assumption) rfl (by kernel_rfl) (by kernel_rfl) (by kernel_rfl) (fun _ _ _ h => h) (by kernel_rfl) (v := ?v29) ?y29 ?r29
        case y29 => (intro u hu; have := kSB u hu; go_simp; try rfl)
        simp only [Act.put, List.setIfInBounds_toArray, List.set_cons_zero, List.set_cons_succ]
        refine take_held 4 (by assumption) rfl (by kernel_rfl) (by kernel_rfl) (by kernel_rfl) (fun _ _ _ h => h) (by kernel_rfl) (v := ?v30) ?y30 ?r30
        case y30 => (intro u hu; go_simp; try rfl)
        simp only [Act.put, List.setIfInBounds_toArray, List.set_cons_zero, List.set_cons_succ]
        refine take_held 5 (by assumption) rfl (by kernel_rfl) (by kernel_rfl) (by kernel_rfl) (fun _ _ _ h => h) (by kernel_rfl) (v := ?v31) ?y31 ?r31
        case y31 => (intro u hu; go_simp; try rfl)
        simp only [Act.put, List.setIfInBounds_toArray, List.set_cons_zero, List.set_cons_succ]
        refine take_held 6 (by assumption) rfl (by kernel_rfl) (by kernel_rfl) (by kernel_rfl) (fun _ _ _ h => h) (by kernel_rfl) (v := ?v32) ?y32 ?r32
        case y32 => (intro u hu; go_simp; try rfl)
        simp only [Act.put, List.setIfInBounds_toArray, List.set_cons_zero, List.set_cons_succ]
        refine take_held 7 (by assumption) rfl (by kernel_rfl) (by kernel_rfl) (by kernel_rfl) (fun _ _ _ h => h) (by kernel_rfl) (v := ?v33) ?y33 ?r33
        case y33 => (intro u hu; go_simp; try rfl)
        simp only [Act.put, List.setIfInBounds_toArray, List.set_cons_zero, List.set_cons_succ]
        refine take_held 8 (by assumption) rfl (by kernel_rfl) (by kernel_rfl) (by kernel_rfl) (fun _ _ _ h => h) (by kernel_rfl) (v := ?v34) ?y34 ?r34
        case y34 => (intro u hu; go_simp; try rfl)
        simp only [Act.put, List.setIfInBounds_toArray, List.set_cons_zero, List.set_cons_succ]
        refine take_held 9 (by assumption) rfl (by kernel_rfl) (by kernel_rfl) (by kernel_rfl) (fun _ _ _ h => h) (by kernel_rfl) (v := ?v35) ?y35 ?r35
        case y35 => (intro u hu; have := kAB u hu; go_simp; try rfl)
        simp only [Act.put, List.setIfInBounds_toArray, List.set_cons_zero, List.set_cons_succ]
        refine take_held 10 (by assumption) rfl (by kernel_rfl) (by kernel_rfl) (by kernel_rfl) (fun _ _ _ h => h) (by kernel_rfl) (v := ?v36) ?y36 ?r36
        case y36 => (intro u hu; go_simp; try rfl)
        simp only [Act.put, List.setIfInBounds_toArray, List.set_cons_zero, List.set_cons_succ]
        refine take_held 11 (by assumption) rfl (by kernel_rfl) (by kernel_rfl) (by kernel_rfl) (fun _ _ _ h => h) (by kernel_rfl) (v := ?v37) ?y37 ?r37
        case y37 => (intro u hu; go_simp; try rfl)
        simp only [Act.put, List.setIfInBounds_toArray, List.set_cons_zero, List.set_cons_succ]
        refine take_held 12 (by assumption) rfl (by kernel_rfl) (by kernel_rfl) (by kernel_rfl) (fun _ _ _ h => h) (by kernel_rfl) (v := ?v38) ?y38 ?r38
        case y38 => (intro u hu; go_simp; try rfl)
        simp only [Act.put, List.setIfInBounds_toArray, List.set_cons_zero, List.set_cons_succ]
        refine take_held 13 (by assumption) rfl (by kernel_rfl) (by kernel_rfl) (by kernel_rfl) (fun _ _ _ h => h) (by kernel_rfl) (v := ?v39) ?y39 ?r39
        case y39 => (intro u hu; go_simp; try rfl)
        simp only [Act.put, List.setIfInBounds_toArray, List.set_cons_zero, List.set_cons_succ]
        refine take_held 14 (by assumption) rfl (by kernel_rfl) (by kernel_rfl) (by kernel_rfl) (fun _ _ _ h => h) (by kernel_rfl) (v := ?v40) ?y40 ?r40
        case y40 => (intro u hu; have := sX u hu; go_simp; try rfl)
        simp only [Act.put, List.setIfInBounds_toArray, List.set_cons_zero, List.set_cons_succ]
        refine take_held 15 (by assumption) rfl (by kernel_rfl) (by kernel_rfl) (by kernel_rfl) (fun _ _ _ h => h) (by kernel_rfl) (v := ?v41) ?y41 ?r41
        case y41 => (intro u hu; have := kSB u hu; go_simp; try rfl)
        simp only [Act.put, List.setIfInBounds_toArray, List.set_cons_zero, List.set_cons_succ]
        refine take_held 16 (by assumption) rfl (by kernel_rfl) (by kernel_rfl) (by kernel_rfl) (fun _ _ _ h => h) (by kernel_rfl) (v := ?v42) ?y42 ?r42
        case y42 => (intro u hu; have := kNB u hu; go_simp; try rfl)
        simp only [Act.put, List.setIfInBounds_toArray, List.set_cons_zero, List.set_cons_succ]
        refine take_held 17 (by assumption) rfl (by kernel_rfl) (by kernel_rfl) (by kernel_rfl) (fun _ _ _ h => h) (by kernel_rfl) (v := ?v43) ?y43 ?r43
        case y43 => (intro u hu; go_simp; try rfl)
        simp only [Act.put, List.setIfInBounds_toArray, List.set_cons_zero, List.set_cons_succ]
        refine take_held 18 (by assumption) rfl (by kernel_rfl) (by kernel_rfl) (by kernel_rfl) (fun _ _ _ h => h) (by kernel_rfl) (v := ?v44) ?y44 ?r44
        case y44 => (intro u hu; have := kPc u hu; go_simp; try rfl)
        simp only [Act.put, List.setIfInBounds_toArray, List.set_cons_zero, List.set_cons_succ]
        refine take_held 19 (by assumption) rfl (by kernel_rfl) (by kernel_rfl) (by kernel_rfl) (fun _ _ _ h => h) (by kernel_rfl) (v := ?v45) ?y45 ?r45
        case y45 => (intro u hu; have := sP u hu; go_simp; try rfl)
        simp only [Act.put, List.setIfInBounds_toArray, List.set_cons_zero, List.set_cons_succ]
        refine take_held 20 (by assumption) rfl (by kernel_rfl) (by kernel_rfl) (by kernel_rfl) (fun _ _ _ h => h) (by kernel_rfl) (v := ?v46) ?y46 ?r46
        case y46 => (intro u hu; go_simp; try rfl)
        simp only [Act.put, List.setIfInBounds_toArray, List.set_cons_zero, List.set_cons_succ]
        refine take_held 21 (by assumption) rfl (by kernel_rfl) (by kernel_rfl) (by kernel_rfl) (fun _ _ _ h => h) (by kernel_rfl) (v := ?v47) ?y47 ?r47
        case y47 => (intro u hu; go_simp; try rfl)
        simp only [Act.put, List.setIfInBounds_toArray, List.set_cons_zero, List.set_cons_succ]
        refine wpAnyH_ready (rs := [22]) (by kernel_rfl) (by simp) (AllReadyH.cons ((nth_eq _ 22).trans rfl) ?_ AllReadyH.nil)
        intro K' hK
        refine skip_in hK (by kernel_rfl) (V.drew.setCell ⟨OKB, 0, none⟩ (.bool false)) (by go_simp) (hst false) ?_
        simp only [Act.put, List.setIfInBounds_toArray, List.set_cons_zero, List.set_cons_succ]
        refine done_held (by kernel_rfl) ?_ _
        have hn1 := box_turn hNB (hst false) (fun e => hne1 e.symm)
        have ha1 := box_turn hAB (hst false) (fun e => hne2 e.symm)
        have ho1 : Boxed (V.drew.setCell ⟨OKB, 0, none⟩ (.bool false)) OKB 4 (.bool false) := (show Boxed V.drew OKB 4 _ from hOK).set (.bool false)
        have hT1 := hst false
        obtain ⟨V1, hV1⟩ : ∃ V1, V.drew.setCell ⟨OKB, 0, none⟩ (.bool false) = V1 := ⟨_, rfl⟩
        rw [hV1] at hn1 ha1 ho1 hT1 ⊢
        clear hV1
        have ca := ha1.cell
        have cf := ha1.frozen
        have ha2 := ha1.set (.int .i64 (at_ + 8 + l'))
        have hn2 := hn1.other hna (.int .i64 (at_ + 8 + l'))
        have ho2 := ho1.other hne2 (.int .i64 (at_ + 8 + l'))
        have cn := hn2.cell
        have cnf := hn2.frozen
        have hn3 := hn2.set (.int .i64 ((k : Int) + 1))
        have ha3 := ha2.other hne3 (.int .i64 ((k : Int) + 1))
        have ho3 := ho2.other hne1 (.int .i64 ((k : Int) + 1))
        have co := ho3.cell
        go_wp2
        go_ret
        refine ⟨false, rfl, ho3, hn3, ha3, ⟨hT1.os, hT1.tape, hT1.output, Nat.le_trans hT1.size (by simp [World.setCell]), fun z hz hn => ?_⟩, fun h => absurd h.2.2 hzz'⟩
        rw [Below.heap_setCell _ _ _ z (fun e => hn (.inr (.inl e))), Below.heap_setCell _ _ _ z (fun e => hn (.inr (.inr e)))]
        exact hT1.block z hz (fun e => hn (.inl e))
    · have x0 : (at_ == q) = false := by rw [beq_eq_false_iff_ne]; exact hat
      go_enter Try.func17, Try.ntmps17
      go_wp2
      refine start_held (S := fun u => Turn (fun q => q = OKB) V u) 23 rfl (by kernel_rfl) (hS) ?_
      simp only [Array.replicate_succ, Array.replicate_zero, List.push_toArray, List.nil_append, List.cons_append]
      refine read_held 0 rfl (by kernel_rfl) (by kernel_rfl) (.bool true) (by have := hok; go_simp) (by assumption) ?_
      simp only [Act.put, List.setIfInBounds_toArray, List.set_cons_zero, List.set_cons_succ]
      refine take_held 1 (by assumption) rfl (by kernel_rfl) (by kernel_rfl) (by kernel_rfl) (fun _ _ _ h => h) (by kernel_rfl) (v := ?v48) ?y48 ?r48
      case y48 => (intro u hu; go_simp; try rfl)
      simp only [Act.put, List.setIfInBounds_toArray, List.set_cons_zero, List.set_cons_succ]
      refine take_held 2 (by assumption) rfl (by kernel_rfl) (by kernel_rfl) (by kernel_rfl) (fun _ _ _ h => h) (by kernel_rfl) (v := ?v49) ?y49 ?r49
      case y49 => (intro u hu; have := kNB u hu; go_simp; try rfl)
      simp only [Act.put, List.setIfInBounds_toArray, List.set_cons_zero, List.set_cons_succ]
      refine take_held 3 (by assumption) rfl (by kernel_rfl) (by kernel_rfl) (by kernel_rfl) (fun _ _ _ h => h) (by kernel_rfl) (v := ?v50) ?y50 ?r50
      case y50 => (intro u hu; have := kSB u hu; go_simp; try rfl)
      simp only [Act.put, List.setIfInBounds_toArray, List.set_cons_zero, List.set_cons_succ]
      refine take_held 4 (by assumption) rfl (by kernel_rfl) (by kernel_rfl) (by kernel_rfl) (fun _ _ _ h => h) (by kernel_rfl) (v := ?v51) ?y51 ?r51
      case y51 => (intro u hu; go_simp; try rfl)
      simp only [Act.put, List.setIfInBounds_toArray, List.set_cons_zero, List.set_cons_succ]
      refine take_held 5 (by assumption) rfl (by kernel_rfl) (by kernel_rfl) (by kernel_rfl) (fun _ _ _ h => h) (by kernel_rfl) (v := ?v52) ?y52 ?r52
      case y52 => (intro u hu; go_simp; try rfl)
      simp only [Act.put, List.setIfInBounds_toArray, List.set_cons_zero, List.set_cons_succ]
      refine take_held 6 (by assumption) rfl (by kernel_rfl) (by kernel_rfl) (by kernel_rfl) (fun _ _ _ h => h) (by kernel_rfl) (v := ?v53) ?y53 ?r53
      case y53 => (intro u hu; go_simp; try rfl)
      simp only [Act.put, List.setIfInBounds_toArray, List.set_cons_zero, List.set_cons_succ]
      refine take_held 7 (by assumption) rfl (by kernel_rfl) (by kernel_rfl) (by kernel_rfl) (fun _ _ _ h => h) (by kernel_rfl) (v := ?v54) ?y54 ?r54
      case y54 => (intro u hu; go_simp; try rfl)
      simp only [Act.put, List.setIfInBounds_toArray, List.set_cons_zero, List.set_cons_succ]
      refine take_held 8 (by assumption) rfl (by kernel_rfl) (by kernel_rfl) (by kernel_rfl) (fun _ _ _ h => h) (by kernel_rfl) (v := ?v55) ?y55 ?r55
      case y55 => (intro u hu; go_simp; try rfl)
      simp only [Act.put, List.setIfInBounds_toArray, List.set_cons_zero, List.set_cons_succ]
      refine take_held 9 (by assumption) rfl (by kernel_rfl) (by kernel_rfl) (by kernel_rfl) (fun _ _ _ h => h) (by kernel_rfl) (v := ?v56) ?y56 ?r56
      case y56 => (intro u hu; have := kAB u hu; go_simp; try rfl)
      simp only [Act.put, List.setIfInBounds_toArray, List.set_cons_zero, List.set_cons_succ]
      refine take_held 10 (by assumption) rfl (by kernel_rfl) (by kernel_rfl) (by kernel_rfl) (fun _ _ _ h => h) (by kernel_rfl) (v := ?v57) ?y57 ?r57
      case y57 => (intro u hu; go_simp; try rfl)
      simp only [Act.put, List.setIfInBounds_toArray, List.set_cons_zero, List.set_cons_succ]
      refine take_held 11 (by assumption) rfl (by kernel_rfl) (by kernel_rfl) (by kernel_rfl) (fun _ _ _ h => h) (by kernel_rfl) (v := ?v58) ?y58 ?r58
      case y58 => (intro u hu; go_simp; try rfl)
      simp only [Act.put, List.setIfInBounds_toArray, List.set_cons_zero, List.set_cons_succ]
      refine take_held 12 (by assumption) rfl (by kernel_rfl) (by kernel_rfl) (by kernel_rfl) (fun _ _ _ h => h) (by kernel_rfl) (v := ?v59) ?y59 ?r59
      case y59 => (intro u hu; go_simp; try rfl)
      simp only [Act.put, List.setIfInBounds_toArray, List.set_cons_zero, List.set_cons_succ]
      refine skip_held 13 (by assumption) rfl (by kernel_rfl) (by kernel_rfl) (by kernel_rfl) (fun _ _ _ h => h) (by kernel_rfl) ?_
      simp only [Act.put, List.setIfInBounds_toArray, List.set_cons_zero, List.set_cons_succ]
      refine skip_held 14 (by assumption) rfl (by kernel_rfl) (by kernel_rfl) (by kernel_rfl) (fun _ _ _ h => h) (by kernel_rfl) ?_
      simp only [Act.put, List.setIfInBounds_toArray, List.set_cons_zero, List.set_cons_succ]
      refine skip_held 15 (by assumption) rfl (by kernel_rfl) (by kernel_rfl) (by kernel_rfl) (fun _ _ _ h => h) (by kernel_rfl) ?_
      simp only [Act.put, List.setIfInBounds_toArray, List.set_cons_zero, List.set_cons_succ]
      refine skip_held 16 (by assumption) rfl (by kernel_rfl) (by kernel_rfl) (by kernel_rfl) (fun _ _ _ h => h) (by kernel_rfl) ?_
      simp only [Act.put, List.setIfInBounds_toArray, List.set_cons_zero, List.set_cons_succ]
      refine skip_held 17 (by assumption) rfl (by kernel_rfl) (by kernel_rfl) (by kernel_rfl) (fun _ _ _ h => h) (by kernel_rfl) ?_
      simp only [Act.put, List.setIfInBounds_toArray, List.set_cons_zero, List.set_cons_succ]
      refine skip_held 18 (by assumption) rfl (by kernel_rfl) (by kernel_rfl) (by kernel_rfl) (fun _ _ _ h => h) (by kernel_rfl) ?_
      simp only [Act.put, List.setIfInBounds_toArray, List.set_cons_zero, List.set_cons_succ]
      refine skip_held 19 (by assumption) rfl (by kernel_rfl) (by kernel_rfl) (by kernel_rfl) (fun _ _ _ h => h) (by kernel_rfl) ?_
      simp only [Act.put, List.setIfInBounds_toArray, List.set_cons_zero, List.set_cons_succ]
      refine skip_held 20 (by assumption) rfl (by kernel_rfl) (by kernel_rfl) (by kernel_rfl) (fun _ _ _ h => h) (by kernel_rfl) ?_
      simp only [Act.put, List.setIfInBounds_toArray, List.set_cons_zero, List.set_cons_succ]
      refine take_held 21 (by assumption) rfl (by kernel_rfl) (by kernel_rfl) (by kernel_rfl) (fun _ _ _ h => h) (by kernel_rfl) (v := ?v60) ?y60 ?r60
      case y60 => (intro u hu; go_simp; try rfl)
      simp only [Act.put, List.setIfInBounds_toArray, List.set_cons_zero, List.set_cons_succ]
      refine wpAnyH_ready (rs := [22]) (by kernel_rfl) (by simp) (AllReadyH.cons ((nth_eq _ 22).trans rfl) ?_ AllReadyH.nil)
      intro K' hK
      refine skip_in hK (by kernel_rfl) (V.drew.setCell ⟨OKB, 0, none⟩ (.bool false)) (by go_simp) (hst false) ?_
      simp only [Act.put, List.setIfInBounds_toArray, List.set_cons_zero, List.set_cons_succ]
      refine done_held (by kernel_rfl) ?_ _
      have hn1 := box_turn hNB (hst false) (fun e => hne1 e.symm)
      have ha1 := box_turn hAB (hst false) (fun e => hne2 e.symm)
      have ho1 : Boxed (V.drew.setCell ⟨OKB, 0, none⟩ (.bool false)) OKB 4 (.bool false) := (show Boxed V.drew OKB 4 _ from hOK).set (.bool false)
      have hT1 := hst false
      obtain ⟨V1, hV1⟩ : ∃ V1, V.drew.setCell ⟨OKB, 0, none⟩ (.bool false) = V1 := ⟨_, rfl⟩
      rw [hV1] at hn1 ha1 ho1 hT1 ⊢
      clear hV1
      have ca := ha1.cell
      have cf := ha1.frozen
      have ha2 := ha1.set (.int .i64 (q + 8 + l'))
      have hn2 := hn1.other hna (.int .i64 (q + 8 + l'))
      have ho2 := ho1.other hne2 (.int .i64 (q + 8 + l'))
      have cn := hn2.cell
      have cnf := hn2.frozen
      have hn3 := hn2.set (.int .i64 ((k : Int) + 1))
      have ha3 := ha2.other hne3 (.int .i64 ((k : Int) + 1))
      have ho3 := ho2.other hne1 (.int .i64 ((k : Int) + 1))
      have co := ho3.cell
      go_wp2
      go_ret
      refine ⟨false, rfl, ho3, hn3, ha3, ⟨hT1.os, hT1.tape, hT1.output, Nat.le_trans hT1.size (by simp [World.setCell]), fun z hz hn => ?_⟩, fun h => absurd h.2.1 hat⟩
      rw [Below.heap_setCell _ _ _ z (fun e => hn (.inr (.inl e))), Below.heap_setCell _ _ _ z (fun e => hn (.inr (.inr e)))]
      exact hT1.block z hz (fun e => hn (.inl e))
end Go.Proofs.Ytnehkjabhmhijaa.Wal
