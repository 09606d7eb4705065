/-
  StoreOnce: entries that are appended again, or ahead of their turn, change nothing.
-/
import Derived.Test.YticfkdiggiogdaaStoreAwake
namespace Go.Proofs.Yticfkdiggiogdaa.Store
set_option linter.unusedVariables false
set_option linter.unusedSimpArgs false
open Go Go.RowKit Go.Shelf Go.Proofs
open Go.Proofs.Yticfkdiggiogdaa.Disk (Row getD_in ret_int add_add DiskIs Kept St now setSt owns_row owns_same)
open Go.Proofs.Yticfkdiggiogdaa.Wal (start_held take_held call_held read_held done_held Owns Fr Live Free LogIs cell_block rec setSt_at setSt_two appSt now_app openSt σ0 Piece Texts)
open Go.Proofs.Yticfkdiggiogdaa.Codec (num I64 Made Mine Bytes)

/- A store with k entries, in file 0, with no snapshot. -/
structure Fed (W : World) (D S : Nat) (L : Nat → Nat) (k : Nat) (σ : St) (wr : World) : Prop where
  is : ∃ own m, m ≤ 12 + k ∧ StoreIs W wr own D S L σ m 0 1 0 k
  len : (now σ 0).length ≤ 10 + 600 * k
theorem Fed.below {W wr : World} {D S : Nat} {L : Nat → Nat} {k : Nat} {σ : St} (h : Fed W D S L k σ wr) : Below W.heap.size W wr := by
  obtain ⟨own, m, _, s⟩ := h.is
  exact s.live.below
theorem Fed.later {W wr w' : World} {D S : Nat} {L : Nat → Nat} {k : Nat} {σ : St} (h : Fed W D S L k σ wr) (hb : Below wr.heap.size wr w') : Fed W D S L k σ w' := by
  obtain ⟨own, m, hm, s⟩ := h.is
  exact ⟨⟨own, m, hm, s.later hb⟩, h.len⟩
theorem Fed.next {W wr : World} {D S : Nat} {L : Nat → Nat} {k : Nat} {σ : St} (h : Fed W D S L k σ wr) (hk : k ≤ 100) (k' : Nat) (hk' : k' = k + 1) (v : Int) (hv : v = k') (a : Option Addr) (l cap : Nat) (zs : List Int) (hr : Codec.Row wr a l zs) (h0 : a = none → cap = 0) (hl : l ≤ 500) :
    Calls Try.prog 22 #[.pointer (Option.some ⟨S, 0, none⟩), .int .i64 v, .slice a l cap] wr fun e w' => e = .returned (.int .i64 0) ∧ ∃ σ', Fed W D S L k' σ' w' := by
  obtain ⟨own, m, hm, s⟩ := h.is
  have hlen := h.len
  have l2 := hr.len
  have l1 := Codec.num_len v
  refine (append_next s v (by omega) (by omega) a l cap zs hr h0 (by omega) (by omega) (by omega) (by omega)).mono ?_
  rintro e w' ⟨rfl, own', s', f'⟩
  subst hk'
  refine ⟨rfl, appSt σ 0 (Wal.rec (num v ++ zs)), ⟨own', m + 1, by omega, ?_⟩, ?_⟩
  · rw [← hv]
    exact s'
  · rw [app_length, List.length_append]
    omega
theorem Fed.old {W wr : World} {D S : Nat} {L : Nat → Nat} {k : Nat} {σ : St} (h : Fed W D S L k σ wr) (hk : k ≤ 100) (v : Int) (h1 : 1 ≤ v) (h2 : v ≤ k) (a : Option Addr) (l cap : Nat) :
    Calls Try.prog 22 #[.pointer (Option.some ⟨S, 0, none⟩), .int .i64 v, .slice a l cap] wr fun e w' => e = .returned (.int .i64 0) ∧ w' = wr := by
  obtain ⟨own, m, hm, s⟩ := h.is
  exact append_old s v a l cap (by omega) h1 h2
theorem Fed.far {W wr : World} {D S : Nat} {L : Nat → Nat} {k : Nat} {σ : St} (h : Fed W D S L k σ wr) (hk : k ≤ 100) (v : Int) (hv : v < 1 ∨ (k : Int) + 1 < v) (a : Option Addr) (l cap : Nat) :
    Calls Try.prog 22 #[.pointer (Option.some ⟨S, 0, none⟩), .int .i64 v, .slice a l cap] wr fun e w' => e = .returned (.int .i64 8) ∧ w' = wr := by
  obtain ⟨own, m, hm, s⟩ := h.is
  exact append_state s v a l cap (by omega) (by omega) hv
theorem Fed.last {W wr : World} {D S : Nat} {L : Nat → Nat} {k : Nat} {σ : St} (h : Fed W D S L k σ wr) : Calls Try.prog 30 #[.pointer (Option.some ⟨S, 0, none⟩)] wr fun e w' => e = .returned (.int .i64 k) ∧ w' = wr := by
  obtain ⟨own, m, hm, s⟩ := h.is
  exact last_any s
theorem Fed.read {W wr : World} {D S : Nat} {L : Nat → Nat} {k : Nat} {σ : St} (h : Fed W D S L k σ wr) (hk : k ≤ 100) : Calls Try.prog 29 #[.pointer (Option.some ⟨D, 0, none⟩), .int .i64 0] wr fun e w' => ∃ a' cap', e = .returned (.slice a' (now σ 0).length cap') ∧ Row w' a' (now σ 0).length (now σ 0) ∧ Below wr.heap.size wr w' := by
  obtain ⟨own, m, hm, s⟩ := h.is
  refine (Wal.read_live s.live (by omega) 0 (by decide) (now σ 0) _ rfl rfl).mono ?_
  rintro e w' ⟨a', cap', rfl, _, r, _, b⟩
  exact ⟨a', cap', rfl, r, b⟩
theorem fed_start {W w1 w2 : World} {D S : Nat} {L : Nat → Nat} {own2 : Owns} (s : StoreIs W w2 own2 D S L (beganSt σ0) 12 0 1 0 0) : Fed W D S L 0 (beganSt σ0) w2 := ⟨⟨own2, 12, by decide, s⟩, by rw [began_length]; decide⟩
def onceMore : List Int := [111, 110, 99, 101, 32, 109, 111, 114, 101]
theorem onceMore_bytes : Bytes onceMore := by unfold onceMore; intro z hz; simp at hz; omega

set_option maxRecDepth 100000 in
set_option maxHeartbeats 8000000 in
theorem once_all (a0 a1 : Option Addr) (len0 cap0 len1 cap1 : Nat) (ps0 : List Piece) (zs1 : List Int) (w : World) (h0 : Texts w a0 len0 ps0) (hl0 : len0 ≤ 9223372036854775807) (h1 : IntsAt w a1 len1 zs1) (hl1 : len1 ≤ 9223372036854775807) :
    Calls Try.prog 6 #[.slice a0 len0 cap0, .slice a1 len1 cap1] w fun e w' => e = .returned (.bool true) ∧ Below w.heap.size w w' := by
  have kc := fun (w : World) (C : Array Value) (n c : Nat) => Lib.run_convert_bytes_const (P := Try.prog) w 30 5 C n c Try.underlying30 Try.underlying5
  have hlen0 := h0.len
  have hlen1 := h1.len
  have cW := awake_any
  go_enter Try.func6, Try.ntmps6
  go_wp2_with (first
    | (go_at_call 21; refine (open_new g1 (by decide) rfl rfl).mono ?_; rintro e w2 ⟨S, L, own2, rfl, s2, f2, n2⟩)
    | (go_at_call 10; refine (Wal.live_new w w (Below.refl _ _)).mono ?_; rintro e w1 ⟨rfl, ⟨own1, g1⟩, b1⟩))
  have fed0 := fed_start (w1 := w1) s2
  clear s2 f2 g1 b1
  generalize hD : w.heap.size = D at fed0 ⊢
  go_loopw [10, 11] (fun nn j wr => ∃ (k : Nat) (σ : St), nn = .int .i64 k ∧ j = .int .i64 k ∧ k ≤ 20 ∧ k ≤ len0 ∧ Hid (Fed w D S L k σ wr)) (fun _ j _ => 20 - (intOf j).toNat)
  case atStart => exact ⟨0, _, rfl, rfl, by omega, by omega, fed0⟩
  case round =>
    clear fed0
    obtain ⟨k, σ, rfl, rfl, hk20, hkl, hfed⟩ := hrel
    by_cases hlt : k < len0 ∧ k < 20
    · have t0 : (k : Int) < (len0 : Int) := by omega
      have t1 : (k : Int) < 20 := by omega
      have hF := hfed.out
      obtain ⟨x, rfl, hcA, hiA⟩ := (h0.after hF.below).get k (by omega)
      have cC := Disk.copy_any (ps0[k]).a (ps0[k]).zs.length (ps0[k]).cap (ps0[k]).zs wr hiA.row
      generalize ps0[k] = P at *
      have hnil := hiA.nil
      generalize hzz : P.zs = zz at *
      generalize hll : zz.length = ll at *
      generalize P.a = pa at *
      generalize P.cap = pc at *
      by_cases hbig : 500 < ll
      · have t2 : (500 : Int) < (ll : Int) := by omega
        go_wp2_with (go_at_call 12; refine (cW wr).mono ?_; rintro e w3 ⟨rfl, b3⟩)
        go_ret
        exact ⟨rfl, Codec.bcat hF.below b3 (Nat.le_refl _)⟩
      · have t2 : ¬ ((500 : Int) < (ll : Int)) := by omega
        have cC' := cC (by omega) hnil
        have cN := fun (w5 : World) (b5 : Below wr.heap.size wr w5) (a5 : Option Addr) (c5 : Nat) (r5 : Row w5 a5 ll zz) (n5 : a5 = none → c5 = 0) => (hF.later b5).next (by omega) (k + 1) rfl ((k : Int) + 1) (by omega) a5 ll c5 zz ⟨r5.len, r5.small, r5.cell⟩ n5 (by omega)
        clear hfed cC hiA
        go_wp2_with (first
          | (go_at_call 22; refine (cN w5 b5 a5 c5 r5 n5).mono ?_; rintro e w6 ⟨rfl, σ6, f6⟩)
          | (go_at_call 17; refine cC'.mono ?_; rintro e w5 ⟨a5, c5, rfl, r5, o5, b5⟩; have n5 := fun h => ((Disk.owns_form o5).1 h).2))
        go_roundw
        case rel => exact ⟨k + 1, σ6, by go_num, by go_num, by omega, by omega, f6⟩
        case measure => simp [intOf]; omega
    · have hF := hfed.out
      have hend : (¬ ((k : Int) < (len0 : Int))) ∨ ((k : Int) < (len0 : Int) ∧ ¬ ((k : Int) < 20)) := by omega
      have cR := hF.read (by omega)
      generalize hN : (now σ 0).length = N at *
      obtain ⟨st, hst⟩ : ∃ st, strOfNums (now σ 0) = st := ⟨_, rfl⟩
      have stN : now σ 0 = now σ 0 := rfl
      clear hfed
      rcases hend with t0 | ⟨t0, t1⟩
      all_goals
        go_wp2_with (go_at_call 29; refine cR.mono ?_; rintro e w3 ⟨a3, c3, rfl, r3, b3⟩; have hv3 := Disk.conv_row r3 c3; rw [hst] at hv3; clear r3)
        have hF3 := hF.later b3
        clear hF cR
        go_loopw [13] (fun j wr => ∃ i : Nat, j = .int .i64 i ∧ i ≤ 20 ∧ i ≤ len1 ∧ Hid (Fed w D S L k σ wr)) (fun j _ => 20 - (intOf j).toNat)
        case atStart => exact ⟨0, rfl, by omega, by omega, hF3⟩
        case round =>
          clear hF3 hv3 b3
          obtain ⟨i, rfl, hi20, hil, hfed2⟩ := hrel
          have hF := hfed2.out
          clear hfed2
          by_cases hlt2 : i < len1 ∧ i < 20
          · have t2 : (i : Int) < (len1 : Int) := by omega
            have t3 : (i : Int) < 20 := by omega
            obtain ⟨x, rfl, hcI⟩ := (h1.after hF.below).cell i hlt2.1
            have hI64 : I64 (zs1.getD i 0) := h1.i64 _ (by rw [List.getD_eq_getElem?_getD, List.getElem?_eq_getElem (by omega)]; exact List.getElem_mem _)
            have kI : ∀ u, Below w.heap.size w u → u.cell? (x.add i) = Option.some (.int .i64 (zs1.getD i 0)) := fun u hb => by
              obtain ⟨y, hy, hc⟩ := (h1.after hb).cell i hlt2.1
              cases hy
              exact hc
            generalize zs1.getD i 0 = v at *
            have v0 := hI64.1
            have v1 := hI64.2
            have bA : ∀ cs fr, Below wr.heap.size wr (wr.alloc (.cells cs 5 fr)) := fun cs fr => (Below.refl _ _).alloc (Nat.le_refl _) _
            by_cases hA : 1 ≤ v ∧ v ≤ k
            · have q1 := hA.1
              have q2 := hA.2
              go_wp2_with (go_at_call 22; refine ((hF.later (bA _ _)).old (by omega) v q1 q2 _ _ _).mono ?_; rintro e w5 ⟨rfl, hw5⟩; have hF5 := hF.later (show Below wr.heap.size wr w5 from (by rw [hw5]; exact bA _ _)); clear hw5; have hcI5 := kI w5 hF5.below)
              go_roundw
              case rel => exact ⟨i + 1, by go_num, by omega, by omega, hF5⟩
              case measure => simp [intOf]; omega
            · by_cases hB : v = k + 1
              · have q1 : ¬ (v ≤ k) := by omega
                have q2 : (1 : Int) ≤ v := by omega
                have q6 : (v == (k : Int) + 1) = true := by rw [beq_iff_eq]; exact hB
                have hB' : Hid (v = k + 1) := hB
                clear hA hB
                go_wp2_with (first
                  | (go_at_call 12; refine (cW w5).mono ?_; rintro e w6 ⟨rfl, b6⟩)
                  | (go_at_call 22; refine ((hF.later (bA _ _)).next (by omega) (k + 1) rfl v (by have := hB'.out; omega) _ 9 _ onceMore (const_rows wr onceMore _ _ _ 9 rfl onceMore_bytes rfl) (fun h => by cases h) (by decide)).mono ?_; rintro e w5 ⟨rfl, σ5, f5⟩; have hcI5 := kI w5 f5.below))
                go_ret
                exact ⟨rfl, Codec.bcat f5.below b6 (Nat.le_refl _)⟩
              · have q3 : v < 1 ∨ (k : Int) + 1 < v := by omega
                have q4 : ¬ (v = (k : Int) + 1) := hB
                have q5 : decide (1 ≤ v) = false ∨ (1 ≤ v ∧ ¬ (v ≤ k)) := by by_cases h : 1 ≤ v; · right; exact ⟨h, by omega⟩
                                                                             · left; simp; omega
                have q6 : (v == (k : Int) + 1) = false := by rw [beq_eq_false_iff_ne]; exact hB
                rcases q5 with q5 | ⟨q5, q7⟩
                all_goals
                  go_wp2_with (go_at_call 22; refine ((hF.later (bA _ _)).far (by omega) v q3 _ _ _).mono ?_; rintro e w5 ⟨rfl, hw5⟩; have hF5 := hF.later (show Below wr.heap.size wr w5 from (by rw [hw5]; exact bA _ _)); clear hw5; have hcI5 := kI w5 hF5.below)
                  go_roundw
                  case rel => exact ⟨i + 1, by go_num, by omega, by omega, hF5⟩
                  case measure => simp [intOf]; omega
          · have hend2 : (¬ ((i : Int) < (len1 : Int))) ∨ ((i : Int) < (len1 : Int) ∧ ¬ ((i : Int) < 20)) := by omega
            have cR := hF.read (by omega)
            rw [hN] at cR
            rcases hend2 with t2 | ⟨t2, t3⟩
            all_goals
              go_wp2_with (first
                | (go_at_call 12; refine (cW w5).mono ?_; rintro e w6 ⟨rfl, b6⟩)
                | (go_at_call 30; refine ((hF.later b5).last).mono ?_; rintro e u5 ⟨rfl, hu5⟩; rw [hu5])
                | (go_at_call 29; refine cR.mono ?_; rintro e w5 ⟨a5, c5, rfl, r5, b5⟩; have hv5 := Disk.conv_row r5 c5; rw [hst] at hv5; clear r5))
              go_ret
              exact ⟨rfl, Codec.bcat (Codec.bcat hF.below b5 (Nat.le_refl _)) b6 (Nat.le_refl _)⟩
end Go.Proofs.Yticfkdiggiogdaa.Store
