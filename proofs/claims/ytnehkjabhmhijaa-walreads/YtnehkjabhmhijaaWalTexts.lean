/-
  Texts (a slice of bytes' slices): those that came in; whether two are the same; those of them that may be appended.
-/
import Derived.Test.YtnehkjabhmhijaaWalAwake
import Derived.Deep.Slices
namespace Go.Proofs.Ytnehkjabhmhijaa.Wal
set_option linter.unusedVariables false
set_option linter.unusedSimpArgs false
open Go Go.RowKit Go.Shelf Go.Proofs Go.ChangeShapes Go.WideShapes Go.ChangeAt
open Go.Proofs.Ytnehkjabhmhijaa.Disk (Row getD_in ret_int add_add DiskIs Kept St now setSt owns_row owns_same)

theorem nil_row (w : World) : Row w none 0 [] := ⟨rfl, by simp, fun i hi => by omega⟩
theorem bytes_open {H : Type} {enc : TypeId × Value → H} {W : World} {fuel : Nat} {a : Option Addr} {len cap : Nat} {d : DataW H × List MemPlace} (h : DataW.trod enc Try.prog W 0 (fun _ => true) true fuel 22 [.slice a len cap] = Option.some d) :
    ∃ zs, Row W a len zs ∧ (a = none → len = 0 ∧ cap = 0) ∧ len ≤ cap ∧ cap ≤ 9223372036854775807 := by
  rcases open_ints Try.underlying22 Try.underlying5 (by kernel_rfl) h with ⟨hcs, _⟩ | ⟨x, l, c, zs, hcs, _, hl, hm, hz, hd, hbc, hwz⟩
  · simp at hcs
    obtain ⟨rfl, rfl, rfl⟩ := hcs
    exact ⟨[], nil_row W, fun _ => ⟨rfl, rfl⟩, Nat.le_refl _, by omega⟩
  · simp at hcs
    obtain ⟨rfl, rfl, rfl⟩ := hcs
    have hz' : zs.length = cap := by simpa using hz
    refine ⟨zs.take len, ⟨by rw [List.length_take]; omega, fun z hzm => ?_, fun j hj => ⟨x, rfl, ?_⟩⟩, fun h => (by cases h), hl, by unfold maxLen at hm; omega⟩
    · have := hwz z (List.mem_of_mem_take hzm)
      simp [Lit.wf, IntKind.min, IntKind.max, IntKind.bits, IntKind.signed] at this
      omega
    · rw [hbc j (by omega), getD_in zs j (by omega), getD_in _ j (by rw [List.length_take]; omega), List.getElem_take]
theorem piece_open {H : Type} {enc : TypeId × Value → H} {W : World} {n i : Nat} {x : Addr} {cs : List Value} {d : DataW H × List MemPlace} (hc : W.cells? 0 (x.add (i * 1)) 1 = Option.some cs)
    (h : DataW.trod enc Try.prog W 0 (fun _ => true) true n 22 cs = Option.some d) : ∃ p : Piece, W.cell? (x.add i) = Option.some p.val ∧ PieceIn W p := by
  obtain ⟨_, hlen, hcell⟩ := World.cells?_some hc
  match cs, hlen with
  | [v], _ =>
    have hc0 := hcell 0 (by decide)
    rw [add_add, Nat.mul_one, Nat.add_zero] at hc0
    have hv : ∃ a l c, v = .slice a l c := by
      rcases open_ints Try.underlying22 Try.underlying5 (by kernel_rfl) h with ⟨hcs, _⟩ | ⟨y, l, c, zs, hcs, _⟩
      · exact ⟨none, 0, 0, by simpa using hcs⟩
      · exact ⟨Option.some y, l, c, by simpa using hcs⟩
    obtain ⟨a, l, c, rfl⟩ := hv
    obtain ⟨zs, h1, h2, h3, h4⟩ := bytes_open h
    have hl := h1.len
    subst hl
    exact ⟨⟨a, c, zs⟩, hc0, ⟨h1, h2, h3, h4⟩⟩
theorem texts_open {H : Type} {enc : TypeId × Value → H} {W : World} {fuel : Nat} {a : Option Addr} {len cap : Nat} {d : DataW H × List MemPlace} (h : DataW.trod enc Try.prog W 0 (fun _ => true) true fuel 27 [.slice a len cap] = Option.some d) :
    len ≤ 9223372036854775807 ∧ ∃ ps, Texts W a len ps := by
  rcases Go.Deep.open_slice Try.underlying27 h with ⟨hcs, _⟩ | ⟨x, l, c, m, n, D, Pl, hcs, _, hl, hm, hmm, _, hx⟩
  · simp at hcs
    obtain ⟨rfl, rfl, rfl⟩ := hcs
    exact ⟨by omega, [], ⟨rfl, fun i hi => (by simp at hi), fun p hp => (by cases hp)⟩⟩
  · simp at hcs
    obtain ⟨rfl, rfl, rfl⟩ := hcs
    refine ⟨by unfold maxLen at hm; omega, ?_⟩
    have hm' : m = cap := by simpa using hmm
    have hex : ∀ i, i < len → ∃ p : Piece, W.cell? (x.add i) = Option.some p.val ∧ PieceIn W p := fun i hi => by
      obtain ⟨cs', h1, h2⟩ := hx i (by omega)
      rw [show Try.prog.cellsOf 22 = 1 by kernel_rfl] at h1
      exact piece_open h1 h2
    have key : ∀ k, k ≤ len → ∃ ps : List Piece, ps.length = k ∧ (∀ (i : Nat) (h : i < ps.length), W.cell? (x.add i) = Option.some (ps[i]'h).val) ∧ ∀ p ∈ ps, PieceIn W p := by
      intro k
      induction k with
      | zero => intro _; exact ⟨[], rfl, fun i hi => (by simp at hi), fun p hp => (by cases hp)⟩
      | succ k ih =>
        intro hk
        obtain ⟨ps, h1, h2, h3⟩ := ih (by omega)
        obtain ⟨p, hp1, hp2⟩ := hex k (by omega)
        refine ⟨ps ++ [p], by simp [h1], fun i hi => ?_, fun q hq => ?_⟩
        · by_cases g : i < ps.length
          · rw [List.getElem_append_left g]; exact h2 i g
          · have : i = ps.length := by simp at hi; omega
            subst this
            rw [List.getElem_append_right (Nat.le_refl _)]
            simp only [Nat.sub_self, List.getElem_cons_zero]
            rw [h1]
            exact hp1
        · rcases List.mem_append.1 hq with hq | hq
          · exact h3 q hq
          · rw [List.mem_singleton.1 hq]; exact hp2
    obtain ⟨ps, h1, h2, h3⟩ := key len (Nat.le_refl _)
    exact ⟨ps, h1, fun i hi => ⟨x, rfl, h2 i hi⟩, h3⟩

theorem Texts.get {w : World} {a : Option Addr} {n : Nat} {ps : List Piece} (h : Texts w a n ps) (k : Nat) (hk : k < ps.length) : ∃ x, a = Option.some x ∧ w.cell? (x.add k) = Option.some (.slice (ps[k]).a (ps[k]).zs.length (ps[k]).cap) ∧ PieceIn w ps[k] := by
  obtain ⟨x, hx, hc⟩ := h.cell k hk
  exact ⟨x, hx, hc, h.piece _ (List.getElem_mem hk)⟩
theorem take_next {α β : Type} (f : α → β) (l : List α) (k : Nat) (h : k < l.length) : (l.take (k + 1)).map f = (l.take k).map f ++ [f l[k]] := by
  rw [List.take_succ_eq_append_getElem h, List.map_append]
  rfl

set_option maxRecDepth 100000 in
set_option maxHeartbeats 4000000 in
theorem same_any (a b : Option Addr) (n ca m cb : Nat) (ps qs : List Piece) (w : World) (hp : Texts w a n ps) (hq : Texts w b m qs) (hn : n ≤ 9223372036854775807) (hm : m ≤ 9223372036854775807) :
    Calls Try.prog 18 #[.slice a n ca, .slice b m cb] w fun e w' => e = .returned (.bool (decide (ps.map Piece.zs = qs.map Piece.zs))) ∧ Below w.heap.size w w' := by
  have hpl := hp.len
  have hql := hq.len
  by_cases hnm : n = m
  · subst hnm
    obtain ⟨B, hB⟩ : ∃ B, decide (ps.map Piece.zs = qs.map Piece.zs) = B := ⟨_, rfl⟩
    rw [hB]
    go_enter Try.func18, Try.ntmps18
    go_wp2
    go_loopw [5] (fun i wr => ∃ k : Nat, k ≤ n ∧ i = .int .i64 k ∧ (ps.take k).map Piece.zs = (qs.take k).map Piece.zs ∧ Below w.heap.size w wr) (fun i _ => n - (intOf i).toNat)
    case atStart => exact ⟨0, by omega, rfl, rfl, Below.refl _ _⟩
    case round =>
      obtain ⟨k, hk, rfl, heq, bel⟩ := hrel
      by_cases hlt : k < n
      · obtain ⟨x, rfl, hcA, hiA⟩ := (hp.after bel).get k (by omega)
        obtain ⟨y, rfl, hcB, hiB⟩ := (hq.after bel).get k (by omega)
        have t0 : (k : Int) < (n : Int) := by omega
        have kA : ∀ u, Below wr.heap.size wr u → u.cell? (x.add k) = _ := fun u hu => (hu.cell (World.block_lt_of_cell? wr _ hcA)).trans hcA
        have kB : ∀ u, Below wr.heap.size wr u → u.cell? (y.add k) = _ := fun u hu => (hu.cell (World.block_lt_of_cell? wr _ hcB)).trans hcB
        have sA : ∀ u, Below wr.heap.size wr u → (convert 22 9 (.slice (ps[k]).a (ps[k]).zs.length (ps[k]).cap)).run Try.prog u = _ := fun u hu => Disk.conv_row (hiA.row.after hu) _
        have sB : ∀ u, Below wr.heap.size wr u → (convert 22 9 (.slice (qs[k]).a (qs[k]).zs.length (qs[k]).cap)).run Try.prog u = _ := fun u hu => Disk.conv_row (hiB.row.after hu) _
        have hAs := hiA.row.small
        have hBs := hiB.row.small
        have hnext := take_next Piece.zs ps k (by omega)
        have hnext' := take_next Piece.zs qs k (by omega)
        clear hcA hcB hiA hiB
        generalize (ps[k]).zs = zA at *
        generalize (qs[k]).zs = zB at *
        generalize (ps[k]).a = aA at *
        generalize (qs[k]).a = aB at *
        generalize (ps[k]).cap = cA at *
        generalize (qs[k]).cap = cB at *
        generalize zA.length = lA at *
        generalize zB.length = lB at *
        by_cases hz : zA = zB
        · subst hz
          generalize strOfNums zA = s at *
          go_wp2
          refine start_held (S := fun u => Below wr.heap.size wr u) 11 rfl (by kernel_rfl) ((Below.refl _ _).drew) ?_
          simp only [Array.replicate_succ, Array.replicate_zero, List.push_toArray, List.nil_append, List.cons_append]
          have hS : Below wr.heap.size wr wr.drew := (Below.refl _ _).drew
          refine take_held 0 (by assumption) rfl (by kernel_rfl) (by kernel_rfl) (by kernel_rfl) (fun _ _ _ h => h) (by kernel_rfl) (v := ?v0) ?y0 ?r0
          case y0 => (intro u hu; go_simp; try rfl)
          simp only [Act.put, List.setIfInBounds_toArray, List.set_cons_zero, List.set_cons_succ]
          refine take_held 1 (by assumption) rfl (by kernel_rfl) (by kernel_rfl) (by kernel_rfl) (fun _ _ _ h => h) (by kernel_rfl) (v := ?v1) ?y1 ?r1
          case y1 => (intro u hu; go_simp; try rfl)
          simp only [Act.put, List.setIfInBounds_toArray, List.set_cons_zero, List.set_cons_succ]
          refine take_held 2 (by assumption) rfl (by kernel_rfl) (by kernel_rfl) (by kernel_rfl) (fun _ _ _ h => h) (by kernel_rfl) (v := ?v2) ?y2 ?r2
          case y2 => (intro u hu; go_simp; try rfl)
          simp only [Act.put, List.setIfInBounds_toArray, List.set_cons_zero, List.set_cons_succ]
          refine take_held 3 (by assumption) rfl (by kernel_rfl) (by kernel_rfl) (by kernel_rfl) (fun _ _ _ h => h) (by kernel_rfl) (v := ?v3) ?y3 ?r3
          case y3 => (intro u hu; have := kA u hu; go_simp; try rfl)
          simp only [Act.put, List.setIfInBounds_toArray, List.set_cons_zero, List.set_cons_succ]
          refine take_held 4 (by assumption) rfl (by kernel_rfl) (by kernel_rfl) (by kernel_rfl) (fun _ _ _ h => h) (by kernel_rfl) (v := ?v4) ?y4 ?r4
          case y4 => (intro u hu; have := sA u hu; go_simp; try rfl)
          simp only [Act.put, List.setIfInBounds_toArray, List.set_cons_zero, List.set_cons_succ]
          refine take_held 5 (by assumption) rfl (by kernel_rfl) (by kernel_rfl) (by kernel_rfl) (fun _ _ _ h => h) (by kernel_rfl) (v := ?v5) ?y5 ?r5
          case y5 => (intro u hu; go_simp; try rfl)
          simp only [Act.put, List.setIfInBounds_toArray, List.set_cons_zero, List.set_cons_succ]
          refine take_held 6 (by assumption) rfl (by kernel_rfl) (by kernel_rfl) (by kernel_rfl) (fun _ _ _ h => h) (by kernel_rfl) (v := ?v6) ?y6 ?r6
          case y6 => (intro u hu; go_simp; try rfl)
          simp only [Act.put, List.setIfInBounds_toArray, List.set_cons_zero, List.set_cons_succ]
          refine take_held 7 (by assumption) rfl (by kernel_rfl) (by kernel_rfl) (by kernel_rfl) (fun _ _ _ h => h) (by kernel_rfl) (v := ?v7) ?y7 ?r7
          case y7 => (intro u hu; go_simp; try rfl)
          simp only [Act.put, List.setIfInBounds_toArray, List.set_cons_zero, List.set_cons_succ]
          refine take_held 8 (by assumption) rfl (by kernel_rfl) (by kernel_rfl) (by kernel_rfl) (fun _ _ _ h => h) (by kernel_rfl) (v := ?v8) ?y8 ?r8
          case y8 => (intro u hu; have := kB u hu; go_simp; try rfl)
          simp only [Act.put, List.setIfInBounds_toArray, List.set_cons_zero, List.set_cons_succ]
          refine take_held 9 (by assumption) rfl (by kernel_rfl) (by kernel_rfl) (by kernel_rfl) (fun _ _ _ h => h) (by kernel_rfl) (v := ?v9) ?y9 ?r9
          case y9 => (intro u hu; have := sB u hu; go_simp; try rfl)
          simp only [Act.put, List.setIfInBounds_toArray, List.set_cons_zero, List.set_cons_succ]
          refine take_held 10 (by assumption) rfl (by kernel_rfl) (by kernel_rfl) (by kernel_rfl) (fun _ _ _ h => h) (by kernel_rfl) (v := ?v10) ?y10 ?r10
          case y10 => (intro u hu; go_simp; try rfl)
          simp only [Act.put, List.setIfInBounds_toArray, List.set_cons_zero, List.set_cons_succ]
          refine done_held (by kernel_rfl) ?_ _
          go_wp2
          go_roundw
          case rel => exact ⟨k + 1, by omega, by go_num, by rw [hnext, hnext', heq], bel.drew⟩
          case measure => simp [intOf]; omega
        · have hne := Disk.str_ne zA zB hAs hBs hz
          have hBf : B = false := by
            rw [← hB]
            refine decide_eq_false (fun h => hz ?_)
            have h1 := congrArg (fun l => l.take (k + 1)) h
            simp only [← List.map_take] at h1
            rw [hnext, hnext', heq] at h1
            simpa using h1
          subst hBf
          generalize strOfNums zA = s at *
          generalize strOfNums zB = s' at *
          go_wp2
          refine start_held (S := fun u => Below wr.heap.size wr u) 11 rfl (by kernel_rfl) ((Below.refl _ _).drew) ?_
          simp only [Array.replicate_succ, Array.replicate_zero, List.push_toArray, List.nil_append, List.cons_append]
          have hS : Below wr.heap.size wr wr.drew := (Below.refl _ _).drew
          refine take_held 0 (by assumption) rfl (by kernel_rfl) (by kernel_rfl) (by kernel_rfl) (fun _ _ _ h => h) (by kernel_rfl) (v := ?v11) ?y11 ?r11
          case y11 => (intro u hu; go_simp; try rfl)
          simp only [Act.put, List.setIfInBounds_toArray, List.set_cons_zero, List.set_cons_succ]
          refine take_held 1 (by assumption) rfl (by kernel_rfl) (by kernel_rfl) (by kernel_rfl) (fun _ _ _ h => h) (by kernel_rfl) (v := ?v12) ?y12 ?r12
          case y12 => (intro u hu; go_simp; try rfl)
          simp only [Act.put, List.setIfInBounds_toArray, List.set_cons_zero, List.set_cons_succ]
          refine take_held 2 (by assumption) rfl (by kernel_rfl) (by kernel_rfl) (by kernel_rfl) (fun _ _ _ h => h) (by kernel_rfl) (v := ?v13) ?y13 ?r13
          case y13 => (intro u hu; go_simp; try rfl)
          simp only [Act.put, List.setIfInBounds_toArray, List.set_cons_zero, List.set_cons_succ]
          refine take_held 3 (by assumption) rfl (by kernel_rfl) (by kernel_rfl) (by kernel_rfl) (fun _ _ _ h => h) (by kernel_rfl) (v := ?v14) ?y14 ?r14
          case y14 => (intro u hu; have := kA u hu; go_simp; try rfl)
          simp only [Act.put, List.setIfInBounds_toArray, List.set_cons_zero, List.set_cons_succ]
          refine take_held 4 (by assumption) rfl (by kernel_rfl) (by kernel_rfl) (by kernel_rfl) (fun _ _ _ h => h) (by kernel_rfl) (v := ?v15) ?y15 ?r15
          case y15 => (intro u hu; have := sA u hu; go_simp; try rfl)
          simp only [Act.put, List.setIfInBounds_toArray, List.set_cons_zero, List.set_cons_succ]
          refine take_held 5 (by assumption) rfl (by kernel_rfl) (by kernel_rfl) (by kernel_rfl) (fun _ _ _ h => h) (by kernel_rfl) (v := ?v16) ?y16 ?r16
          case y16 => (intro u hu; go_simp; try rfl)
          simp only [Act.put, List.setIfInBounds_toArray, List.set_cons_zero, List.set_cons_succ]
          refine take_held 6 (by assumption) rfl (by kernel_rfl) (by kernel_rfl) (by kernel_rfl) (fun _ _ _ h => h) (by kernel_rfl) (v := ?v17) ?y17 ?r17
          case y17 => (intro u hu; go_simp; try rfl)
          simp only [Act.put, List.setIfInBounds_toArray, List.set_cons_zero, List.set_cons_succ]
          refine take_held 7 (by assumption) rfl (by kernel_rfl) (by kernel_rfl) (by kernel_rfl) (fun _ _ _ h => h) (by kernel_rfl) (v := ?v18) ?y18 ?r18
          case y18 => (intro u hu; go_simp; try rfl)
          simp only [Act.put, List.setIfInBounds_toArray, List.set_cons_zero, List.set_cons_succ]
          refine take_held 8 (by assumption) rfl (by kernel_rfl) (by kernel_rfl) (by kernel_rfl) (fun _ _ _ h => h) (by kernel_rfl) (v := ?v19) ?y19 ?r19
          case y19 => (intro u hu; have := kB u hu; go_simp; try rfl)
          simp only [Act.put, List.setIfInBounds_toArray, List.set_cons_zero, List.set_cons_succ]
          refine take_held 9 (by assumption) rfl (by kernel_rfl) (by kernel_rfl) (by kernel_rfl) (fun _ _ _ h => h) (by kernel_rfl) (v := ?v20) ?y20 ?r20
          case y20 => (intro u hu; have := sB u hu; go_simp; try rfl)
          simp only [Act.put, List.setIfInBounds_toArray, List.set_cons_zero, List.set_cons_succ]
          refine take_held 10 (by assumption) rfl (by kernel_rfl) (by kernel_rfl) (by kernel_rfl) (fun _ _ _ h => h) (by kernel_rfl) (v := ?v21) ?y21 ?r21
          case y21 => (intro u hu; go_simp; try rfl)
          simp only [Act.put, List.setIfInBounds_toArray, List.set_cons_zero, List.set_cons_succ]
          refine done_held (by kernel_rfl) ?_ _
          go_wp2
          go_ret
          exact ⟨rfl, bel.drew⟩
      · obtain rfl : k = n := by omega
        rw [List.take_of_length_le (by omega), List.take_of_length_le (by omega)] at heq
        have hBt : B = true := by rw [← hB]; exact decide_eq_true heq
        subst hBt
        go_wp2
        go_ret
        exact ⟨rfl, bel⟩
  · have t0 : ((n : Int) == (m : Int)) = false := by
      rw [beq_eq_false_iff_ne]
      omega
    rw [decide_eq_false (fun h => hnm (by have := congrArg List.length h; simpa [hpl, hql] using this))]
    go_enter Try.func18, Try.ntmps18
    go_wp2
    go_ret
    exact ⟨rfl, Below.refl _ _⟩
end Go.Proofs.Ytnehkjabhmhijaa.Wal
