/-
  WalWrites: what is appended are records as the document has them; what may not be is refused.
-/
import Derived.Test.YteklmgbfinffdaaWalRef
namespace Go.Proofs.Yteklmgbfinffdaa.Wal
set_option linter.unusedVariables false
set_option linter.unusedSimpArgs false
open Go Go.RowKit Go.Shelf Go.Proofs
open Go.Proofs.Yteklmgbfinffdaa.Disk (Row getD_in ret_int add_add DiskIs Kept St now setSt owns_row owns_same wpList_append_bytes)

theorem turn_live {W w w' : World} {own : Owns} {D : Nat} {σ : St} {m : Nat} {row : Option Nat} (h : Live W w own D σ m) (hg : w.grownBy w' row) (hr : ∀ g, row = Option.some g → own g = none ∧ W.heap.size ≤ g) : Live W w' own D σ m := by
  refine ⟨?_, h.base, h.below.grown hg h.below.size (fun k e => (hr k e).2)⟩
  obtain ⟨F, hF, hs⟩ := h.disk
  exact ⟨F, hF.same (fun k hk => hg.block k (hF.old k hk) (fun e => hk (hr k e.symm).1)) hg.size, hs⟩
theorem turn_log {own : Owns} {w w' : World} {L D : Nat} {f : Int} {row : Option Nat} (h : LogIs own w L D f) (hg : w.grownBy w' row) (hr : ∀ g, row = Option.some g → g ≠ L) : LogIs own w' L D f := by
  have e := hg.block L h.free.1 (fun e => hr L e.symm rfl)
  exact ⟨⟨Nat.lt_of_lt_of_le h.free.1 hg.size, h.free.2⟩, (cell_block (p := ⟨L, 0, none⟩) e).trans h.disk, (cell_block (p := ⟨L, 1, none⟩) e).trans h.file⟩
theorem owns_rebase {w : World} {b B : Nat} {e : TypeId} {size : Nat} {v : Value} {n : Nat} {xs : List Value} (h : w.ownsRow b e size v n xs) (hb : ∀ g, v.ownBlock = Option.some g → B ≤ g) : w.ownsRow B e size v n xs := by
  refine ⟨h.1, ?_⟩
  rcases h.2 with hn | ⟨g, cap, cur, e', hb', rest⟩
  · exact .inl hn
  · exact .inr ⟨g, cap, cur, e', hb g (by rw [e']; rfl), rest⟩

/- The file's bytes, and the same bytes in a slice. -/
structure FedW (W : World) (X : List Int) (D L m : Nat) (v : Value) (wr : World) : Prop where
  live : ∃ own, Live W wr own D (logSt 0 [] X) m ∧ LogIs own wr L D 0 ∧ wr.ownsRow W.heap.size 5 1 v X.length (X.map (Value.int .u8)) ∧ ∀ g, v.ownBlock = Option.some g → Free own wr g ∧ g ≠ L
  small : ∀ z ∈ X, 0 ≤ z ∧ z < 256
theorem FedW.below {W wr : World} {X : List Int} {D L m : Nat} {v : Value} (h : FedW W X D L m v wr) : Below W.heap.size W wr := by
  obtain ⟨own, hl, _⟩ := h.live
  exact hl.below
theorem FedW.slice {W wr : World} {X : List Int} {D L m : Nat} {v : Value} (h : FedW W X D L m v wr) : ∃ a c, v = .slice a X.length c := by
  obtain ⟨own, _, _, ho, _⟩ := h.live
  exact owns_slice ho
theorem FedW.later {W wr w' : World} {X : List Int} {D L m : Nat} {v : Value} (h : FedW W X D L m v wr) (hb : Below wr.heap.size wr w') : FedW W X D L (m + 1) v w' := by
  obtain ⟨own, hl, hg, ho, hf⟩ := h.live
  exact ⟨⟨own, (hl.later hb).more (Nat.le_succ _), hg.go (Fr.below hb), owns_later ho hb, fun g hgb => ⟨((hf g hgb).1.go (Fr.below hb)).1, (hf g hgb).2⟩⟩, h.small⟩
theorem fedW_put {W wr w6 w7 w8 : World} {X Y : List Int} {D L m c8 : Nat} {a8 : Option Addr} {v : Value} {own own6 : Owns} (hl : Live W w6 own6 D (logSt 0 [] (X ++ Y)) (m + 1)) (hg : LogIs own wr L D 0) (ho : wr.ownsRow W.heap.size 5 1 v X.length (X.map (Value.int .u8)))
    (hf : ∀ g, v.ownBlock = Option.some g → Free own wr g ∧ g ≠ L) (fr : Fr own own6 wr w6) (b7 : Below w6.heap.size w6 w7) (hX : ∀ z ∈ X, 0 ≤ z ∧ z < 256) (hY : ∀ z ∈ Y, 0 ≤ z ∧ z < 256)
    (o8 : w8.ownsRow 0 5 1 (.slice a8 (X.length + Y.length) c8) (X.length + Y.length) ((X ++ Y).map (Value.int .u8))) (g8 : w7.grownBy w8 v.ownBlock)
    (t8 : Value.ownBlock (.slice a8 (X.length + Y.length) c8) = v.ownBlock ∨ Value.ownBlock (.slice a8 (X.length + Y.length) c8) = Option.some w7.heap.size) : FedW W (X ++ Y) D L (m + 1) (.slice a8 (X.length + Y.length) c8) w8 := by
  have hfr7 : Fr own own6 wr w7 := fr.trans (Fr.below b7)
  have hl7 := hl.later b7
  have hg7 := hg.go hfr7
  have hblk : ∀ g, v.ownBlock = Option.some g → W.heap.size ≤ g := by
    intro g hgb
    rcases ho.2 with ⟨e, _⟩ | ⟨g', cap', cur, e, hb, _⟩
    · rw [e] at hgb; cases hgb
    · rw [e] at hgb; cases hgb; exact hb
  have hf7 : ∀ g, v.ownBlock = Option.some g → Free own6 w7 g := fun g hgb => ((hf g hgb).1.go hfr7).1
  have hW7 : W.heap.size ≤ w7.heap.size := hl7.below.size
  refine ⟨⟨own6, turn_live hl7 g8 (fun g hgb => ⟨(hf7 g hgb).2, hblk g hgb⟩), turn_log hg7 g8 (fun g hgb => (hf g hgb).2), ?_, fun g hgb => ?_⟩, small_append hX hY⟩
  · rw [List.length_append]
    exact owns_rebase o8 (blk_step t8 hblk hW7)
  · rcases t8 with e | e
    · rw [e] at hgb
      have h1 := hf7 g hgb
      exact ⟨⟨Nat.lt_of_lt_of_le h1.1 g8.size, h1.2⟩, (hf g hgb).2⟩
    · rw [e] at hgb
      cases hgb
      have h1 : w7.heap.size < w8.heap.size := by
        rcases o8.2 with ⟨e', _⟩ | ⟨g'', cap', cur, e', _, hh, _⟩
        · rw [e'] at e; cases e
        · rw [e'] at e; cases e; exact (Array.getElem?_eq_some_iff.1 hh).1
      exact ⟨hl7.free (Nat.le_refl _) h1, fun e => by have := hg7.free.1; omega⟩

set_option maxRecDepth 100000 in
set_option maxHeartbeats 4000000 in
theorem writes_all (a0 : Option Addr) (len0 cap0 : Nat) (ps0 : List Piece) (w : World) (h0 : Texts w a0 len0 ps0) (hl0 : len0 ≤ 9223372036854775807) :
    Calls Try.prog 5 #[.slice a0 len0 cap0] w fun e w' => e = .returned (.bool true) ∧ Below w.heap.size w w' := by
  have hpl := h0.len
  have hO : openSt σ0 0 (stop 0 []) = σ0 := openSt_same σ0 0
  go_enter Try.func5, Try.ntmps5
  go_wp2_with (first
    | (go_at_call 14; refine (open_any h3' (by decide) 0 (by decide) [] rfl [] ⟨trivial, rfl⟩).mono ?_; rintro e w4 ⟨own4, L, ta4, tc4, ps4, rfl, h4, f4, lg4, t4, hp4⟩; rw [hO, ← logSt_nil 0] at h4)
    | (go_at_call 10; refine (live_new w1 w1 (Below.refl _ _)).mono ?_; rintro e w3 ⟨rfl, ⟨own3, h3'⟩, b3⟩)
    | (go_at_call 9; refine (awake_any w).mono ?_; rintro e w1 ⟨rfl, b1⟩))
  obtain ⟨D, hD⟩ : ∃ D, w1.heap.size = D := ⟨_, rfl⟩
  have fed0 : FedW w1 [] D L 3 (.slice none 0 0) w4 := by rw [← hD]; exact ⟨⟨own4, h4, lg4, World.ownsRow_nil _ _ _ _, fun g hg => by cases hg⟩, fun z hz => by cases hz⟩
  rw [hD]
  clear h4 lg4 t4 hp4 f4 h3' b3
  go_loopw [7, 8] (fun v i wr => ∃ (k : Nat) (X : List Int), k ≤ len0 ∧ k ≤ 30 ∧ i = .int .i64 k ∧ X.length ≤ k * 3008 ∧ FedW w1 X D L (3 + k) v wr) (fun _ i _ => 30 - (intOf i).toNat)
  case atStart => exact ⟨0, [], by omega, by omega, rfl, Nat.le_refl _, fed0⟩
  case round =>
    clear fed0
    obtain ⟨k, X, hk, hk30, rfl, hXl, hfed⟩ := hrel
    obtain ⟨wa, wc, rfl⟩ := hfed.slice
    have hfed' := hfed
    have bwr : Below w.heap.size w wr := bcat b1 hfed.below
    obtain ⟨own, hl, hg, ho, hf⟩ := hfed'.live
    obtain ⟨Xl, hXll⟩ : ∃ n, X.length = n := ⟨_, rfl⟩
    by_cases hgo : k < len0 ∧ k < 30
    · have t0 : (k : Int) < (len0 : Int) := by omega
      have t1 : (k : Int) < 30 := by omega
      obtain ⟨x, rfl, hcA, hiA⟩ := (h0.after bwr).get k (by omega)
      obtain ⟨x', hx', hc0, hi0⟩ := h0.get k (by omega)
      cases hx'
      obtain ⟨P, hP⟩ : ∃ P, ps0[k] = P := ⟨_, rfl⟩
      rw [hP] at hcA hiA hc0 hi0
      clear hP
      obtain ⟨ll, hll⟩ : ∃ n, P.zs.length = n := ⟨_, rfl⟩
      by_cases hbig : 3000 < ll
      · rw [hll] at hcA
        have t2 : (3000 : Int) < (ll : Int) := by omega
        go_wp2
        go_ret
        exact ⟨rfl, bwr⟩
      · have t2 : ¬ ((3000 : Int) < (ll : Int)) := by omega
        have cC := Disk.copy_any P.a P.zs.length P.cap P.zs wr hiA.row (by omega) hiA.nil
        rw [hll] at cC
        by_cases hz : ll = 0
        · subst hz
          have cN := fun (w5 : World) (b5 : Below wr.heap.size wr w5) (a5 : Option Addr) (c5 : Nat) => append_no (hl.later b5) (by omega) (hg.go (Fr.below b5)) (by decide) a5 0 c5 (.inl rfl) (by decide)
          have hcA' : ∀ u, Below wr.heap.size wr u → u.cell? (x.add k) = _ := fun u hu => (hu.cell (World.block_lt_of_cell? wr _ hcA)).trans hcA
          rw [hll] at hcA hcA'
          go_wp2_with (first
            | (go_at_call 23; refine (cN w5 b5 a5 c5).mono ?_; rintro e w6 ⟨rfl, hw6⟩; rw [hw6]; clear hw6; have hcA5 := hcA' w5 b5)
            | (go_at_call 12; refine cC.mono ?_; rintro e w5 ⟨a5, c5, rfl, r5, o5, b5⟩))
          go_roundw
          case rel => exact ⟨k + 1, X, by omega, by omega, by go_num, by omega, by rw [← hXll]; exact hfed.later b5⟩
          case measure => simp [intOf]; omega
        · have t3 : ((ll : Int) == 0) = false := by rw [beq_eq_false_iff_ne]; omega
          have cA := fun (w5 : World) (b5 : Below wr.heap.size wr w5) (a5 : Option Addr) (c5 : Nat) (r5 : Row w5 a5 ll P.zs) (n5 : a5 = none → c5 = 0) => append_any (hl.later b5) (by omega) (hg.go (Fr.below b5)) (by decide) a5 ll c5 P.zs r5 n5 (by omega) (by omega) (by rw [logSt_now, List.nil_append]; omega)
          rw [logSt_app] at cA
          have hrl : (rec P.zs).length = 8 + ll := by rw [rec_len, hll]
          have hput := fun (w6 w7 w8 : World) (own6 : Owns) (c8 : Nat) (a8 : Option Addr) hl6 fr b7 o8 g8 t8 => @fedW_put w1 wr w6 w7 w8 X (rec P.zs) D L (3 + k) c8 a8 (.slice wa X.length wc) own own6 hl6 hg ho hf fr b7 hfed.small (rec_small P.zs hiA.row.small) o8 g8 t8
          rw [hrl, hXll] at hput
          have hrow0 : Row w P.a ll P.zs := by rw [← hll]; exact hi0.row
          rw [hll] at hcA hc0
          have hcU : ∀ u, Below w.heap.size w u → u.cell? (x.add k) = _ := fun u hu => (hu.cell (World.block_lt_of_cell? w _ hc0)).trans hc0
          obtain ⟨zz, hzz⟩ : ∃ zz, P.zs = zz := ⟨_, rfl⟩
          rw [hzz] at cA cC hrow0 hput
          have hnil := hi0.nil
          rw [hll] at hnil
          clear hiA hi0 hc0
          generalize P.a = pa at *
          generalize P.cap = pc at *
          go_wp2_with (first
            | (at_builtin; refine wpList_append_bytes rfl (.tmp 58) (.tmp 63) rfl (.slice wa Xl wc) Xl X rfl o7 a7 (8 + ll) c7 (rec zz) rfl r7 n7 (by omega) ?_; intro a8 c8 w8 o8 g8 t8)
            | (go_at_call 24; refine (refRecord_any pa ll pc zz w6 (hrow0.after bw6) (fun h => (hnil h).2) (by omega)).mono ?_; rintro e w7 ⟨a7, c7, rfl, r7, n7, b7⟩; have o7 := owns_nought (owns_later (owns_same ho (fun g hgb => ((hf g hgb).1.go fr6).2)) b7); rw [hXll] at o7)
            | (go_at_call 23; refine (cA w5 b5 a5 c5 r5 n5).mono ?_; rintro e w6 ⟨rfl, own6, hl6, f6⟩; have fr6 := (Fr.below (o := own) b5).trans f6; have bw6 : Below w.heap.size w w6 := bcat b1 hl6.below; have hcA6 := hcU w6 bw6)
            | (go_at_call 12; refine cC.mono ?_; rintro e w5 ⟨a5, c5, rfl, r5, o5, b5⟩; have n5 := fun h => ((Disk.owns_form o5).1 h).2))
          go_roundw
          case rel => exact ⟨k + 1, X ++ rec zz, by omega, by omega, by go_num, by rw [List.length_append, ← hzz, hrl]; omega, hput w6 w7 w8 own6 c8 a8 hl6 fr6 b7 o8 g8 t8⟩
          case measure => simp [intOf]; omega
    · have hrd := read_live (hl.later (Below.refl wr.heap.size wr).drew) (by omega) 0 (by decide) X Xl (by rw [logSt_now]; rfl) hXll
      have hX := hfed.small
      have r0 := (owns_row ho hX).1
      rw [hXll] at r0
      have sW : ∀ u, Below wr.heap.size wr u → (convert 22 9 (.slice wa Xl wc)).run Try.prog u = _ := fun u hu => Disk.conv_row (r0.after hu) _
      obtain ⟨S, hSS⟩ : ∃ S, strOfNums X = S := ⟨_, rfl⟩
      have hS : Below wr.heap.size wr wr.drew := (Below.refl _ _).drew
      have cSz := fun (u : World) (hu : Below wr.heap.size wr u) => size_any (hl.later hu) (by omega) (hg.go (Fr.below hu)) (by decide)
      rw [logSt_now, List.nil_append, hXll] at cSz
      rw [hSS] at sW
      have hrd' := hrd.mono (R' := fun e w' => ∃ v, e = .returned v ∧ ∃ a' cap', v = .slice a' Xl cap' ∧ Row w' a' Xl X ∧ Below wr.drew.heap.size wr.drew w') (fun e w' ⟨a', cap', he, _, hr, _, hb⟩ => ⟨_, he, a', cap', rfl, hr, hb⟩)
      by_cases hkl : k < len0
      · have t0 : (k : Int) < (len0 : Int) := by omega
        have t1 : ¬ ((k : Int) < 30) := by omega
        go_wp2
        refine start_held (S := fun u => Below wr.heap.size wr u) 14 rfl (by kernel_rfl) (hS) ?_
        simp only [Array.replicate_succ, Array.replicate_zero, List.push_toArray, List.nil_append, List.cons_append]
        refine take_held 0 (by assumption) rfl (by kernel_rfl) (by kernel_rfl) (by kernel_rfl) (fun _ _ _ h => h) (by kernel_rfl) (v := ?v0) ?y0 ?r0
        case y0 => (intro u hu; go_simp; try rfl)
        simp only [Act.put, List.setIfInBounds_toArray, List.set_cons_zero, List.set_cons_succ]
        refine take_held 3 (by assumption) rfl (by kernel_rfl) (by kernel_rfl) (by kernel_rfl) (fun _ _ _ h => h) (by kernel_rfl) (v := ?v1) ?y1 ?r1
        case y1 => (intro u hu; go_simp; try rfl)
        simp only [Act.put, List.setIfInBounds_toArray, List.set_cons_zero, List.set_cons_succ]
        refine take_held 4 (by assumption) rfl (by kernel_rfl) (by kernel_rfl) (by kernel_rfl) (fun _ _ _ h => h) (by kernel_rfl) (v := ?v2) ?y2 ?r2
        case y2 => (intro u hu; have := sW u hu; go_simp; try rfl)
        simp only [Act.put, List.setIfInBounds_toArray, List.set_cons_zero, List.set_cons_succ]
        refine call_held 1 rfl (by kernel_rfl) (by kernel_rfl) 18 #[.pointer (Option.some ⟨D, 0, none⟩), .int .i64 0] (by go_simp) _ hrd' ?_
        rintro v w9 ⟨a9, c9, rfl, r9, b9⟩
        refine ⟨hS.trans (b9.mono hS.size), ?_⟩
        simp only [Act.put, List.setIfInBounds_toArray, List.set_cons_zero, List.set_cons_succ]
        have hS9 : Below wr.heap.size wr w9 := hS.trans (b9.mono hS.size)
        have k9 := Disk.conv_row r9 c9
        rw [hSS] at k9
        refine read_held 2 rfl (by kernel_rfl) (by kernel_rfl) (.string S) (by go_simp) (by assumption) ?_
        simp only [Act.put, List.setIfInBounds_toArray, List.set_cons_zero, List.set_cons_succ]
        refine take_held 5 (by assumption) rfl (by kernel_rfl) (by kernel_rfl) (by kernel_rfl) (fun _ _ _ h => h) (by kernel_rfl) (v := ?v3) ?y3 ?r3
        case y3 => (intro u hu; go_simp; try rfl)
        simp only [Act.put, List.setIfInBounds_toArray, List.set_cons_zero, List.set_cons_succ]
        refine take_held 6 (by assumption) rfl (by kernel_rfl) (by kernel_rfl) (by kernel_rfl) (fun _ _ _ h => h) (by kernel_rfl) (v := ?v4) ?y4 ?r4
        case y4 => (intro u hu; go_simp; try rfl)
        simp only [Act.put, List.setIfInBounds_toArray, List.set_cons_zero, List.set_cons_succ]
        refine take_held 7 (by assumption) rfl (by kernel_rfl) (by kernel_rfl) (by kernel_rfl) (fun _ _ _ h => h) (by kernel_rfl) (v := ?v5) ?y5 ?r5
        case y5 => (intro u hu; go_simp; try rfl)
        simp only [Act.put, List.setIfInBounds_toArray, List.set_cons_zero, List.set_cons_succ]
        refine take_held 9 (by assumption) rfl (by kernel_rfl) (by kernel_rfl) (by kernel_rfl) (fun _ _ _ h => h) (by kernel_rfl) (v := ?v6) ?y6 ?r6
        case y6 => (intro u hu; go_simp; try rfl)
        simp only [Act.put, List.setIfInBounds_toArray, List.set_cons_zero, List.set_cons_succ]
        refine take_held 10 (by assumption) rfl (by kernel_rfl) (by kernel_rfl) (by kernel_rfl) (fun _ _ _ h => h) (by kernel_rfl) (v := ?v7) ?y7 ?r7
        case y7 => (intro u hu; go_simp; try rfl)
        simp only [Act.put, List.setIfInBounds_toArray, List.set_cons_zero, List.set_cons_succ]
        refine call_held 8 rfl (by kernel_rfl) (by kernel_rfl) 17 #[.pointer (Option.some ⟨L, 0, none⟩)] (by go_simp) _ (call_val (cSz w9 hS9)) ?_
        rintro v w10 ⟨rfl, b10⟩
        refine ⟨hS9.trans (b10.mono hS9.size), ?_⟩
        simp only [Act.put, List.setIfInBounds_toArray, List.set_cons_zero, List.set_cons_succ]
        have hS10 : Below wr.heap.size wr w10 := hS9.trans (b10.mono hS9.size)
        refine take_held 11 (by assumption) rfl (by kernel_rfl) (by kernel_rfl) (by kernel_rfl) (fun _ _ _ h => h) (by kernel_rfl) (v := ?v8) ?y8 ?r8
        case y8 => (intro u hu; go_simp; try rfl)
        simp only [Act.put, List.setIfInBounds_toArray, List.set_cons_zero, List.set_cons_succ]
        refine take_held 12 (by assumption) rfl (by kernel_rfl) (by kernel_rfl) (by kernel_rfl) (fun _ _ _ h => h) (by kernel_rfl) (v := ?v9) ?y9 ?r9
        case y9 => (intro u hu; go_simp; try rfl)
        simp only [Act.put, List.setIfInBounds_toArray, List.set_cons_zero, List.set_cons_succ]
        refine take_held 13 (by assumption) rfl (by kernel_rfl) (by kernel_rfl) (by kernel_rfl) (fun _ _ _ h => h) (by kernel_rfl) (v := ?v10) ?y10 ?r10
        case y10 => (intro u hu; go_simp; try rfl)
        simp only [Act.put, List.setIfInBounds_toArray, List.set_cons_zero, List.set_cons_succ]
        refine done_held (by kernel_rfl) ?_ _
        go_wp2
        go_ret
        exact ⟨rfl, bcat bwr hS10⟩
      · have t0 : ¬ ((k : Int) < (len0 : Int)) := by omega
        go_wp2
        refine start_held (S := fun u => Below wr.heap.size wr u) 14 rfl (by kernel_rfl) (hS) ?_
        simp only [Array.replicate_succ, Array.replicate_zero, List.push_toArray, List.nil_append, List.cons_append]
        refine take_held 0 (by assumption) rfl (by kernel_rfl) (by kernel_rfl) (by kernel_rfl) (fun _ _ _ h => h) (by kernel_rfl) (v := ?v11) ?y11 ?r11
        case y11 => (intro u hu; go_simp; try rfl)
        simp only [Act.put, List.setIfInBounds_toArray, List.set_cons_zero, List.set_cons_succ]
        refine take_held 3 (by assumption) rfl (by kernel_rfl) (by kernel_rfl) (by kernel_rfl) (fun _ _ _ h => h) (by kernel_rfl) (v := ?v12) ?y12 ?r12
        case y12 => (intro u hu; go_simp; try rfl)
        simp only [Act.put, List.setIfInBounds_toArray, List.set_cons_zero, List.set_cons_succ]
        refine take_held 4 (by assumption) rfl (by kernel_rfl) (by kernel_rfl) (by kernel_rfl) (fun _ _ _ h => h) (by kernel_rfl) (v := ?v13) ?y13 ?r13
        case y13 => (intro u hu; have := sW u hu; go_simp; try rfl)
        simp only [Act.put, List.setIfInBounds_toArray, List.set_cons_zero, List.set_cons_succ]
        refine call_held 1 rfl (by kernel_rfl) (by kernel_rfl) 18 #[.pointer (Option.some ⟨D, 0, none⟩), .int .i64 0] (by go_simp) _ hrd' ?_
        rintro v w9 ⟨a9, c9, rfl, r9, b9⟩
        refine ⟨hS.trans (b9.mono hS.size), ?_⟩
        simp only [Act.put, List.setIfInBounds_toArray, List.set_cons_zero, List.set_cons_succ]
        have hS9 : Below wr.heap.size wr w9 := hS.trans (b9.mono hS.size)
        have k9 := Disk.conv_row r9 c9
        rw [hSS] at k9
        refine read_held 2 rfl (by kernel_rfl) (by kernel_rfl) (.string S) (by go_simp) (by assumption) ?_
        simp only [Act.put, List.setIfInBounds_toArray, List.set_cons_zero, List.set_cons_succ]
        refine take_held 5 (by assumption) rfl (by kernel_rfl) (by kernel_rfl) (by kernel_rfl) (fun _ _ _ h => h) (by kernel_rfl) (v := ?v14) ?y14 ?r14
        case y14 => (intro u hu; go_simp; try rfl)
        simp only [Act.put, List.setIfInBounds_toArray, List.set_cons_zero, List.set_cons_succ]
        refine take_held 6 (by assumption) rfl (by kernel_rfl) (by kernel_rfl) (by kernel_rfl) (fun _ _ _ h => h) (by kernel_rfl) (v := ?v15) ?y15 ?r15
        case y15 => (intro u hu; go_simp; try rfl)
        simp only [Act.put, List.setIfInBounds_toArray, List.set_cons_zero, List.set_cons_succ]
        refine take_held 7 (by assumption) rfl (by kernel_rfl) (by kernel_rfl) (by kernel_rfl) (fun _ _ _ h => h) (by kernel_rfl) (v := ?v16) ?y16 ?r16
        case y16 => (intro u hu; go_simp; try rfl)
        simp only [Act.put, List.setIfInBounds_toArray, List.set_cons_zero, List.set_cons_succ]
        refine take_held 9 (by assumption) rfl (by kernel_rfl) (by kernel_rfl) (by kernel_rfl) (fun _ _ _ h => h) (by kernel_rfl) (v := ?v17) ?y17 ?r17
        case y17 => (intro u hu; go_simp; try rfl)
        simp only [Act.put, List.setIfInBounds_toArray, List.set_cons_zero, List.set_cons_succ]
        refine take_held 10 (by assumption) rfl (by kernel_rfl) (by kernel_rfl) (by kernel_rfl) (fun _ _ _ h => h) (by kernel_rfl) (v := ?v18) ?y18 ?r18
        case y18 => (intro u hu; go_simp; try rfl)
        simp only [Act.put, List.setIfInBounds_toArray, List.set_cons_zero, List.set_cons_succ]
        refine call_held 8 rfl (by kernel_rfl) (by kernel_rfl) 17 #[.pointer (Option.some ⟨L, 0, none⟩)] (by go_simp) _ (call_val (cSz w9 hS9)) ?_
        rintro v w10 ⟨rfl, b10⟩
        refine ⟨hS9.trans (b10.mono hS9.size), ?_⟩
        simp only [Act.put, List.setIfInBounds_toArray, List.set_cons_zero, List.set_cons_succ]
        have hS10 : Below wr.heap.size wr w10 := hS9.trans (b10.mono hS9.size)
        refine take_held 11 (by assumption) rfl (by kernel_rfl) (by kernel_rfl) (by kernel_rfl) (fun _ _ _ h => h) (by kernel_rfl) (v := ?v19) ?y19 ?r19
        case y19 => (intro u hu; go_simp; try rfl)
        simp only [Act.put, List.setIfInBounds_toArray, List.set_cons_zero, List.set_cons_succ]
        refine take_held 12 (by assumption) rfl (by kernel_rfl) (by kernel_rfl) (by kernel_rfl) (fun _ _ _ h => h) (by kernel_rfl) (v := ?v20) ?y20 ?r20
        case y20 => (intro u hu; go_simp; try rfl)
        simp only [Act.put, List.setIfInBounds_toArray, List.set_cons_zero, List.set_cons_succ]
        refine take_held 13 (by assumption) rfl (by kernel_rfl) (by kernel_rfl) (by kernel_rfl) (fun _ _ _ h => h) (by kernel_rfl) (v := ?v21) ?y21 ?r21
        case y21 => (intro u hu; go_simp; try rfl)
        simp only [Act.put, List.setIfInBounds_toArray, List.set_cons_zero, List.set_cons_succ]
        refine done_held (by kernel_rfl) ?_ _
        go_wp2
        go_ret
        exact ⟨rfl, bcat bwr hS10⟩
end Go.Proofs.Yteklmgbfinffdaa.Wal
