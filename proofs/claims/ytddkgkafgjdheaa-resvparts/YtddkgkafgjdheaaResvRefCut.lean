/-
  The chapter's own table: cut, Release, Expire, Clear.
-/
import Derived.Test.YtddkgkafgjdheaaResvRel
namespace Go.Proofs.Ytddkgkafgjdheaa.Rs
set_option linter.unusedVariables false
set_option linter.unusedSimpArgs false
open Go Go.RowKit Go.Shelf Go.Proofs Hp
attribute [local go_sem] Oper.semAt_some

set_option maxRecDepth 100000 in
set_option maxHeartbeats 4000000 in
theorem rcut_all (F : Nat → Prop) (b : Nat) (ls : List (List Sl)) (R upto : Int) (hR : R < 0) (p : Int → Bool) (hpp : p = fun _ => true) (m : Nat) (w : World) (h : TAt F w b ls) (hs : Small m ls) (hm : m ≤ 1000000000) (hn : 0 < ls.length) (hn2 : ls.length ≤ 1000000) :
    Calls Try.prog 59 #[.pointer (some ⟨b, 0, none⟩), .int .i64 R, .int .i64 upto] w fun e w' => e = .returned (.tuple #[]) ∧ ∃ F', TAt F' w' b (ls.map (cutL p upto)) ∧ Tn F F' w w' := by
  obtain ⟨v, vals, TI⟩ := h
  obtain ⟨g, cap, ev, hgb, hFg, hgl, hlc, hcm, hfz, hcell⟩ := TI.form hn
  have HTI : Hid (TIn F w b v vals ls) := TI
  have hd := TI.head
  rw [ev] at hd
  clear hcell TI
  go_enter Try.func59, Try.ntmps59
  go_wp2_with fail
  have HPP : Hid _ := hpp
  clear hpp
  go_loopw [6] (fun s16 wr => ∃ (i : Nat) (F' : Nat → Prop) (vs : List Value) (l2 : List (List Sl)), s16 = .int .i64 i ∧ i ≤ ls.length ∧ Hid (TIn F' wr b v vs l2) ∧ Hid (Tn F F' w wr) ∧ Hid (l2.length = ls.length) ∧ Hid (∀ j (h1 : j < ls.length) (h2 : j < l2.length), (j < i → l2[j] = cutL p upto ls[j]) ∧ (i ≤ j → l2[j] = ls[j]))) (fun s16 _ => ls.length - (intOf s16).toNat)
  case atStart => exact ⟨0, F, vals, ls, rfl, Nat.zero_le _, HTI, Tn.below (Below.refl _ _), rfl, fun j h1 h2 => ⟨fun q => absurd q (Nat.not_lt_zero _), fun _ => rfl⟩⟩
  case round =>
    clear hd hfz
    obtain ⟨i, F', vs, l2, rfl, hi, HT, tw, hl2, HL⟩ := hrel
    obtain ⟨W0, rfl⟩ : ∃ W0, W0 = wr := ⟨_, rfl⟩
    rcases Nat.lt_or_ge i ls.length with hlt | hge
    · have hi2 : i < l2.length := by rw [hl2.out]; exact hlt
      have hiv : i < vs.length := by rw [HT.out.len]; exact hi2
      have RO := HT.out.each i hi2 hiv
      rw [(HL.out i hlt hi2).2 (Nat.le_refl _)] at RO
      obtain ⟨g', cap', ev', hgb', hFg', hgl', hlc', hcm', hfz', hcell'⟩ := HT.out.form (by omega)
      have hcg := hcell' i hiv
      have egg : g' = g ∧ cap' = cap := by
        have e0 := ev.symm.trans ev'
        injection e0 with e1 e2 e3
        injection e1 with e4
        injection e4 with e5
        exact ⟨e5.symm, e3.symm⟩
      obtain ⟨rfl, rfl⟩ := egg
      have hd := HT.out.head
      rw [ev] at hd
      have hi3 : (i : Int) < (ls.length : Int) := by omega
      have hfz0 := hfz' i
      have hvg : v.ownBlock = some g' := by rw [ev]; rfl
      obtain ⟨ra, rn, rc, er⟩ := RO.shape
      have hlm : (ls[i]).length ≤ m := hs _ (List.getElem_mem hlt)
      have hb0 := (HT.out.low b HT.out.hb)
      obtain ⟨l, hl⟩ : ∃ l, ls[i] = l := ⟨_, rfl⟩
      rw [hl] at RO hlm
      rw [er] at hcg RO
      have hlen : rn = l.length := by obtain ⟨y1, y2, y3, _⟩ := RO.form; injection y3
      have HRO : Hid (RowAt slL (fun k => F' k ∧ k ≠ b ∧ v.ownBlock ≠ some k) W0 (.slice ra rn rc) l) := RO
      have HLI : Hid (ls[i] = l) := hl
      have hlt' : (i : Int) < (ls.length : Int) := by omega
      have hsm : (i : Int) + 1 ≤ 1000000000 := by omega
      clear hcell' er RO hl
      subst hlen
      go_wp2_with fail
      go_loopw [7, 8] (fun s8 s23 wr => ∃ j : Nat, s23 = .int .i64 j ∧ j ≤ l.length ∧ Hid (wr.ownsRow W0.heap.size 40 3 s8 (cutL p upto (l.take j)).length (rowL slL (cutL p upto (l.take j)))) ∧ Hid (Below W0.heap.size W0 wr)) (fun _ s23 _ => l.length - (intOf s23).toNat)
      case atStart => exact ⟨0, rfl, Nat.zero_le _, World.ownsRow_nil _ _ _ _, Below.refl _ _⟩
      case round =>
        obtain ⟨j, rfl, hj, O, bw⟩ := hrel
        obtain ⟨oa, oc, eo, _⟩ := own_form O.out
        rcases Nat.lt_or_ge j l.length with hjl | hjg
        · obtain ⟨g2, o2, cap2, e2, c0, c1, c2⟩ := box_item (HRO.out.go slL_len bw.out) j hjl
          cases e2
          have hd3 : wr.cell? ⟨b, 0, none⟩ = some (.slice (some ⟨g', 0, none⟩) ls.length cap') := (cell_same (bw.out.block b hb0)).trans hd
          have hc3 := (cell_same (o := i) (bw.out.block g' hgl')).trans hcg
          have hjl' : (j : Int) < (l.length : Int) := by omega
          have hjs : (j : Int) + 1 ≤ 1000000000 := by omega
          have hT : Hid (cutL p upto (l.take (j + 1)) = cutL p upto (l.take j) ++ (if (cut1 p upto l[j]).f < (l[j]).t then [cut1 p upto l[j]] else [])) := by unfold Hid; rw [List.take_succ_eq_append_getElem hjl, cutL_snoc]
          have hcl : Hid ((cutL p upto (l.take j)).length ≤ 1000000000) := by unfold Hid; have := cutL_len p upto (l.take j); rw [List.length_take] at this; omega
          obtain ⟨s, hs'⟩ : ∃ s, l[j] = s := ⟨_, rfl⟩
          rw [hs'] at c0 c1 c2 hT
          clear hs'
          obtain ⟨w5, hw5⟩ : ∃ w5, wr.alloc (.cells #[.int .i64 s.f, .int .i64 s.t, .int .i64 s.r] 40) = w5 := ⟨_, rfl⟩
          have b5 : Below wr.heap.size wr w5 := by rw [← hw5]; exact (Below.refl _ _).alloc (Nat.le_refl _) _
          have z0 : w5.cell? ⟨wr.heap.size, 0, none⟩ = some (.int .i64 s.f) := by rw [← hw5]; simp
          have z1 : w5.cell? ⟨wr.heap.size, 1, none⟩ = some (.int .i64 s.t) := by rw [← hw5]; simp
          have z2 : w5.cell? ⟨wr.heap.size, 2, none⟩ = some (.int .i64 s.r) := by rw [← hw5]; simp
          have z3 : w5.frozen? ⟨wr.heap.size, 0, none⟩ = false := by rw [← hw5]; simp
          have lz : wr.heap.size < w5.heap.size := World.block_lt_of_cell? _ _ z0
          have hp : p s.r = true := by rw [HPP.out]
          have ec : cut1 p upto s = ⟨max s.f upto, s.t, s.r⟩ := by unfold cut1; rw [if_pos hp]
          have bX : Below wr.heap.size wr (w5.setCell ⟨wr.heap.size, 0, none⟩ (.int .i64 (max s.f upto))) := b5.setCell (p := ⟨wr.heap.size, 0, none⟩) (Nat.le_refl _) _
          have BX : Below W0.heap.size W0 (w5.setCell ⟨wr.heap.size, 0, none⟩ (.int .i64 (max s.f upto))) := bcat bw.out bX
          have hxz : (w5.setCell ⟨wr.heap.size, 0, none⟩ (.int .i64 (max s.f upto))).heap.size = w5.heap.size := by simp [World.setCell]
          by_cases kc : max s.f upto < s.t
          · skip
            obtain ⟨w7, hw7⟩ : ∃ w7, (w5.setCell ⟨wr.heap.size, 0, none⟩ (.int .i64 (max s.f upto))).alloc (.cells #[.int .i64 (max s.f upto), .int .i64 s.t, .int .i64 s.r] 40) = w7 := ⟨_, rfl⟩
            have b7 : Below W0.heap.size W0 w7 := by rw [← hw7]; exact BX.alloc (by have := BX.size; omega) _
            have bx7 : Below wr.heap.size wr w7 := by rw [← hw7]; exact bX.alloc bX.size _
            have nn := cell_new (w5.setCell ⟨wr.heap.size, 0, none⟩ (.int .i64 (max s.f upto))) (.int .i64 (max s.f upto)) (.int .i64 s.t) (.int .i64 s.r) 40
            rw [hw7] at nn
            rw [hxz] at nn
            obtain ⟨n0, n1, n2⟩ := nn
            have hrow := owns_go O.out bx7
            rw [eo] at hrow
            have HW7 : Hid ((w5.setCell ⟨wr.heap.size, 0, none⟩ (.int .i64 (max s.f upto))).alloc (.cells #[.int .i64 (max s.f upto), .int .i64 s.t, .int .i64 s.r] 40) = w7) := hw7
            have e1 : Hid (cutL p upto (l.take (j + 1)) = cutL p upto (l.take j) ++ [⟨max s.f upto, s.t, s.r⟩]) := by unfold Hid; rw [hT.out, ec, if_pos kc]
            clear hw7
            subst eo
            go_wp2_with (first | (at_builtin; (try rw [HW7.out]); refine wpList_app kindSl rfl (.tmp 59) (.tmp 61) rfl W0.heap.size (.slice oa (cutL p upto (l.take j)).length oc) (cutL p upto (l.take j)) rfl hrow _ [⟨max s.f upto, s.t, s.r⟩] rfl (lone_at n0 n1 n2) (by have := hcl.out; simp; omega) (by have := hcl.out; unfold maxLen; simp; omega) b7.size ?_; intro v2 w2 o2 g2 a2))
            go_roundw
            case measure => simp only [intOf]; omega
            case rel => exact ⟨j + 1, rfl, hjl, by rw [e1.out]; exact o2, b7.grown g2 b7.size (fun k hk => (own_since O.out k hk).1)⟩
          · skip
            have e1 : Hid (cutL p upto (l.take (j + 1)) = cutL p upto (l.take j)) := by unfold Hid; rw [hT.out, ec, if_neg kc, List.append_nil]
            have O2 : Hid ((w5.setCell ⟨wr.heap.size, 0, none⟩ (.int .i64 (max s.f upto))).ownsRow W0.heap.size 40 3 _ (cutL p upto (l.take j)).length (rowL slL (cutL p upto (l.take j)))) := owns_go O.out bX
            have kd : decide (max s.f upto < s.t) = false := decide_eq_false kc
            clear kc
            subst eo
            go_wp2_with fail
            go_roundw
            case measure => simp only [intOf]; omega
            case rel => exact ⟨j + 1, rfl, hjl, by rw [e1.out]; exact O2, BX⟩
        · obtain rfl : j = l.length := by omega
          have O' := O.out
          rw [List.take_length] at O' eo
          have R1 := (row_of_own slL_len O').mono (G := fun k => (F' k ∧ k ≠ b ∧ v.ownBlock ≠ some k) ∨ W0.heap.size ≤ k) fun k hk => Or.inr hk.2.1
          have PT := HT.out.put bw.out g' i hvg hi2 _ _ R1
          have HPT : Hid _ := PT
          have hd2 : wr.cell? ⟨b, 0, none⟩ = some (.slice (some ⟨g', 0, none⟩) ls.length cap') := (cell_same (bw.out.block b hb0)).trans hd
          have hc2 := (cell_same (o := i) (bw.out.block g' hgl')).trans hcg
          have hf2 := (frozen_same (o := i) (bw.out.block g' hgl')).trans hfz0
          subst eo
          clear O' R1 PT hd hcg hfz0
          go_wp2_with fail
          go_roundw
          case measure => simp only [intOf]; omega
          case rel =>
            refine ⟨i + 1, _, _, _, rfl, hlt, HPT.out.1, tw.out.trans HPT.out.2, by unfold Hid; rw [List.length_set]; exact hl2.out, fun j h1 h2 => ?_⟩
            rw [List.length_set] at h2
            by_cases e : i = j
            · subst e
              rw [List.getElem_set_self]
              exact ⟨fun _ => by rw [HLI.out], fun q => absurd q (by omega)⟩
            · rw [List.getElem_set_ne e]
              exact ⟨fun q => (HL.out j h1 h2).1 (by omega), fun q => (HL.out j h1 h2).2 (by omega)⟩
    · obtain rfl : i = ls.length := by omega
      have hd := HT.out.head
      rw [ev] at hd
      go_wp2
      go_end0
      refine ⟨rfl, F', ⟨v, vs, ?_⟩, tw.out⟩
      have e : l2 = ls.map (cutL p upto) := List.ext_getElem (by rw [List.length_map]; exact hl2.out) fun j h1 h2 => by
        rw [List.getElem_map]
        have h3 : j < ls.length := by rw [← hl2.out]; exact h1
        exact (HL.out j h3 h1).1 h3
      rw [← e]
      exact HT.out
set_option maxRecDepth 100000 in
set_option maxHeartbeats 4000000 in
theorem rcut_one (F : Nat → Prop) (b : Nat) (ls : List (List Sl)) (R upto : Int) (hR : ¬ R < 0) (p : Int → Bool) (hpp : p = isR R) (m : Nat) (w : World) (h : TAt F w b ls) (hs : Small m ls) (hm : m ≤ 1000000000) (hn : 0 < ls.length) (hn2 : ls.length ≤ 1000000) :
    Calls Try.prog 59 #[.pointer (some ⟨b, 0, none⟩), .int .i64 R, .int .i64 upto] w fun e w' => e = .returned (.tuple #[]) ∧ ∃ F', TAt F' w' b (ls.map (cutL p upto)) ∧ Tn F F' w w' := by
  obtain ⟨v, vals, TI⟩ := h
  obtain ⟨g, cap, ev, hgb, hFg, hgl, hlc, hcm, hfz, hcell⟩ := TI.form hn
  have hRd : decide (R < 0) = false := decide_eq_false hR
  clear hR
  have HTI : Hid (TIn F w b v vals ls) := TI
  have hd := TI.head
  rw [ev] at hd
  clear hcell TI
  go_enter Try.func59, Try.ntmps59
  go_wp2_with fail
  have HPP : Hid _ := hpp
  clear hpp
  go_loopw [6] (fun s16 wr => ∃ (i : Nat) (F' : Nat → Prop) (vs : List Value) (l2 : List (List Sl)), s16 = .int .i64 i ∧ i ≤ ls.length ∧ Hid (TIn F' wr b v vs l2) ∧ Hid (Tn F F' w wr) ∧ Hid (l2.length = ls.length) ∧ Hid (∀ j (h1 : j < ls.length) (h2 : j < l2.length), (j < i → l2[j] = cutL p upto ls[j]) ∧ (i ≤ j → l2[j] = ls[j]))) (fun s16 _ => ls.length - (intOf s16).toNat)
  case atStart => exact ⟨0, F, vals, ls, rfl, Nat.zero_le _, HTI, Tn.below (Below.refl _ _), rfl, fun j h1 h2 => ⟨fun q => absurd q (Nat.not_lt_zero _), fun _ => rfl⟩⟩
  case round =>
    clear hd hfz
    obtain ⟨i, F', vs, l2, rfl, hi, HT, tw, hl2, HL⟩ := hrel
    obtain ⟨W0, rfl⟩ : ∃ W0, W0 = wr := ⟨_, rfl⟩
    rcases Nat.lt_or_ge i ls.length with hlt | hge
    · have hi2 : i < l2.length := by rw [hl2.out]; exact hlt
      have hiv : i < vs.length := by rw [HT.out.len]; exact hi2
      have RO := HT.out.each i hi2 hiv
      rw [(HL.out i hlt hi2).2 (Nat.le_refl _)] at RO
      obtain ⟨g', cap', ev', hgb', hFg', hgl', hlc', hcm', hfz', hcell'⟩ := HT.out.form (by omega)
      have hcg := hcell' i hiv
      have egg : g' = g ∧ cap' = cap := by
        have e0 := ev.symm.trans ev'
        injection e0 with e1 e2 e3
        injection e1 with e4
        injection e4 with e5
        exact ⟨e5.symm, e3.symm⟩
      obtain ⟨rfl, rfl⟩ := egg
      have hd := HT.out.head
      rw [ev] at hd
      have hi3 : (i : Int) < (ls.length : Int) := by omega
      have hfz0 := hfz' i
      have hvg : v.ownBlock = some g' := by rw [ev]; rfl
      obtain ⟨ra, rn, rc, er⟩ := RO.shape
      have hlm : (ls[i]).length ≤ m := hs _ (List.getElem_mem hlt)
      have hb0 := (HT.out.low b HT.out.hb)
      obtain ⟨l, hl⟩ : ∃ l, ls[i] = l := ⟨_, rfl⟩
      rw [hl] at RO hlm
      rw [er] at hcg RO
      have hlen : rn = l.length := by obtain ⟨y1, y2, y3, _⟩ := RO.form; injection y3
      have HRO : Hid (RowAt slL (fun k => F' k ∧ k ≠ b ∧ v.ownBlock ≠ some k) W0 (.slice ra rn rc) l) := RO
      have HLI : Hid (ls[i] = l) := hl
      have hlt' : (i : Int) < (ls.length : Int) := by omega
      have hsm : (i : Int) + 1 ≤ 1000000000 := by omega
      clear hcell' er RO hl
      subst hlen
      go_wp2_with fail
      go_loopw [7, 8] (fun s8 s23 wr => ∃ j : Nat, s23 = .int .i64 j ∧ j ≤ l.length ∧ Hid (wr.ownsRow W0.heap.size 40 3 s8 (cutL p upto (l.take j)).length (rowL slL (cutL p upto (l.take j)))) ∧ Hid (Below W0.heap.size W0 wr)) (fun _ s23 _ => l.length - (intOf s23).toNat)
      case atStart => exact ⟨0, rfl, Nat.zero_le _, World.ownsRow_nil _ _ _ _, Below.refl _ _⟩
      case round =>
        obtain ⟨j, rfl, hj, O, bw⟩ := hrel
        obtain ⟨oa, oc, eo, _⟩ := own_form O.out
        rcases Nat.lt_or_ge j l.length with hjl | hjg
        · obtain ⟨g2, o2, cap2, e2, c0, c1, c2⟩ := box_item (HRO.out.go slL_len bw.out) j hjl
          cases e2
          have hd3 : wr.cell? ⟨b, 0, none⟩ = some (.slice (some ⟨g', 0, none⟩) ls.length cap') := (cell_same (bw.out.block b hb0)).trans hd
          have hc3 := (cell_same (o := i) (bw.out.block g' hgl')).trans hcg
          have hjl' : (j : Int) < (l.length : Int) := by omega
          have hjs : (j : Int) + 1 ≤ 1000000000 := by omega
          have hT : Hid (cutL p upto (l.take (j + 1)) = cutL p upto (l.take j) ++ (if (cut1 p upto l[j]).f < (l[j]).t then [cut1 p upto l[j]] else [])) := by unfold Hid; rw [List.take_succ_eq_append_getElem hjl, cutL_snoc]
          have hcl : Hid ((cutL p upto (l.take j)).length ≤ 1000000000) := by unfold Hid; have := cutL_len p upto (l.take j); rw [List.length_take] at this; omega
          obtain ⟨s, hs'⟩ : ∃ s, l[j] = s := ⟨_, rfl⟩
          rw [hs'] at c0 c1 c2 hT
          clear hs'
          obtain ⟨w5, hw5⟩ : ∃ w5, wr.alloc (.cells #[.int .i64 s.f, .int .i64 s.t, .int .i64 s.r] 40) = w5 := ⟨_, rfl⟩
          have b5 : Below wr.heap.size wr w5 := by rw [← hw5]; exact (Below.refl _ _).alloc (Nat.le_refl _) _
          have z0 : w5.cell? ⟨wr.heap.size, 0, none⟩ = some (.int .i64 s.f) := by rw [← hw5]; simp
          have z1 : w5.cell? ⟨wr.heap.size, 1, none⟩ = some (.int .i64 s.t) := by rw [← hw5]; simp
          have z2 : w5.cell? ⟨wr.heap.size, 2, none⟩ = some (.int .i64 s.r) := by rw [← hw5]; simp
          have z3 : w5.frozen? ⟨wr.heap.size, 0, none⟩ = false := by rw [← hw5]; simp
          have lz : wr.heap.size < w5.heap.size := World.block_lt_of_cell? _ _ z0
          cases hp : p s.r with
          | true =>
            have hq : (s.r == R) = true := by rw [HPP.out] at hp; exact hp
            have ec : cut1 p upto s = ⟨max s.f upto, s.t, s.r⟩ := by unfold cut1; rw [if_pos hp]
            have bX : Below wr.heap.size wr (w5.setCell ⟨wr.heap.size, 0, none⟩ (.int .i64 (max s.f upto))) := b5.setCell (p := ⟨wr.heap.size, 0, none⟩) (Nat.le_refl _) _
            have BX : Below W0.heap.size W0 (w5.setCell ⟨wr.heap.size, 0, none⟩ (.int .i64 (max s.f upto))) := bcat bw.out bX
            have hxz : (w5.setCell ⟨wr.heap.size, 0, none⟩ (.int .i64 (max s.f upto))).heap.size = w5.heap.size := by simp [World.setCell]
            by_cases kc : max s.f upto < s.t
            · skip
              obtain ⟨w7, hw7⟩ : ∃ w7, (w5.setCell ⟨wr.heap.size, 0, none⟩ (.int .i64 (max s.f upto))).alloc (.cells #[.int .i64 (max s.f upto), .int .i64 s.t, .int .i64 s.r] 40) = w7 := ⟨_, rfl⟩
              have b7 : Below W0.heap.size W0 w7 := by rw [← hw7]; exact BX.alloc (by have := BX.size; omega) _
              have bx7 : Below wr.heap.size wr w7 := by rw [← hw7]; exact bX.alloc bX.size _
              have nn := cell_new (w5.setCell ⟨wr.heap.size, 0, none⟩ (.int .i64 (max s.f upto))) (.int .i64 (max s.f upto)) (.int .i64 s.t) (.int .i64 s.r) 40
              rw [hw7] at nn
              rw [hxz] at nn
              obtain ⟨n0, n1, n2⟩ := nn
              have hrow := owns_go O.out bx7
              rw [eo] at hrow
              have HW7 : Hid ((w5.setCell ⟨wr.heap.size, 0, none⟩ (.int .i64 (max s.f upto))).alloc (.cells #[.int .i64 (max s.f upto), .int .i64 s.t, .int .i64 s.r] 40) = w7) := hw7
              have e1 : Hid (cutL p upto (l.take (j + 1)) = cutL p upto (l.take j) ++ [⟨max s.f upto, s.t, s.r⟩]) := by unfold Hid; rw [hT.out, ec, if_pos kc]
              clear hw7
              subst eo
              go_wp2_with (first | (at_builtin; (try rw [HW7.out]); refine wpList_app kindSl rfl (.tmp 59) (.tmp 61) rfl W0.heap.size (.slice oa (cutL p upto (l.take j)).length oc) (cutL p upto (l.take j)) rfl hrow _ [⟨max s.f upto, s.t, s.r⟩] rfl (lone_at n0 n1 n2) (by have := hcl.out; simp; omega) (by have := hcl.out; unfold maxLen; simp; omega) b7.size ?_; intro v2 w2 o2 g2 a2))
              go_roundw
              case measure => simp only [intOf]; omega
              case rel => exact ⟨j + 1, rfl, hjl, by rw [e1.out]; exact o2, b7.grown g2 b7.size (fun k hk => (own_since O.out k hk).1)⟩
            · skip
              have e1 : Hid (cutL p upto (l.take (j + 1)) = cutL p upto (l.take j)) := by unfold Hid; rw [hT.out, ec, if_neg kc, List.append_nil]
              have O2 : Hid ((w5.setCell ⟨wr.heap.size, 0, none⟩ (.int .i64 (max s.f upto))).ownsRow W0.heap.size 40 3 _ (cutL p upto (l.take j)).length (rowL slL (cutL p upto (l.take j)))) := owns_go O.out bX
              have kd : decide (max s.f upto < s.t) = false := decide_eq_false kc
              clear kc
              subst eo
              go_wp2_with fail
              go_roundw
              case measure => simp only [intOf]; omega
              case rel => exact ⟨j + 1, rfl, hjl, by rw [e1.out]; exact O2, BX⟩
          | false =>
            have hq : (s.r == R) = false := by rw [HPP.out] at hp; exact hp
            have ec : cut1 p upto s = s := by unfold cut1; rw [if_neg (by rw [hp]; simp)]
            have bX : Below wr.heap.size wr w5 := b5
            have BX : Below W0.heap.size W0 w5 := bcat bw.out bX
            by_cases kc : s.f < s.t
            · skip
              obtain ⟨w7, hw7⟩ : ∃ w7, w5.alloc (.cells #[.int .i64 (s.f), .int .i64 s.t, .int .i64 s.r] 40) = w7 := ⟨_, rfl⟩
              have b7 : Below W0.heap.size W0 w7 := by rw [← hw7]; exact BX.alloc (by have := BX.size; omega) _
              have bx7 : Below wr.heap.size wr w7 := by rw [← hw7]; exact bX.alloc bX.size _
              have nn := cell_new w5 (.int .i64 (s.f)) (.int .i64 s.t) (.int .i64 s.r) 40
              rw [hw7] at nn
              obtain ⟨n0, n1, n2⟩ := nn
              have hrow := owns_go O.out bx7
              rw [eo] at hrow
              have HW7 : Hid (w5.alloc (.cells #[.int .i64 (s.f), .int .i64 s.t, .int .i64 s.r] 40) = w7) := hw7
              have e1 : Hid (cutL p upto (l.take (j + 1)) = cutL p upto (l.take j) ++ [⟨s.f, s.t, s.r⟩]) := by unfold Hid; rw [hT.out, ec, if_pos kc]
              clear hw7
              subst eo
              go_wp2_with (first | (at_builtin; (try rw [HW7.out]); refine wpList_app kindSl rfl (.tmp 59) (.tmp 61) rfl W0.heap.size (.slice oa (cutL p upto (l.take j)).length oc) (cutL p upto (l.take j)) rfl hrow _ [⟨s.f, s.t, s.r⟩] rfl (lone_at n0 n1 n2) (by have := hcl.out; simp; omega) (by have := hcl.out; unfold maxLen; simp; omega) b7.size ?_; intro v2 w2 o2 g2 a2))
              go_roundw
              case measure => simp only [intOf]; omega
              case rel => exact ⟨j + 1, rfl, hjl, by rw [e1.out]; exact o2, b7.grown g2 b7.size (fun k hk => (own_since O.out k hk).1)⟩
            · skip
              have e1 : Hid (cutL p upto (l.take (j + 1)) = cutL p upto (l.take j)) := by unfold Hid; rw [hT.out, ec, if_neg kc, List.append_nil]
              have O2 : Hid (w5.ownsRow W0.heap.size 40 3 _ (cutL p upto (l.take j)).length (rowL slL (cutL p upto (l.take j)))) := owns_go O.out bX
              have kd : decide (s.f < s.t) = false := decide_eq_false kc
              clear kc
              subst eo
              go_wp2_with fail
              go_roundw
              case measure => simp only [intOf]; omega
              case rel => exact ⟨j + 1, rfl, hjl, by rw [e1.out]; exact O2, BX⟩
        · obtain rfl : j = l.length := by omega
          have O' := O.out
          rw [List.take_length] at O' eo
          have R1 := (row_of_own slL_len O').mono (G := fun k => (F' k ∧ k ≠ b ∧ v.ownBlock ≠ some k) ∨ W0.heap.size ≤ k) fun k hk => Or.inr hk.2.1
          have PT := HT.out.put bw.out g' i hvg hi2 _ _ R1
          have HPT : Hid _ := PT
          have hd2 : wr.cell? ⟨b, 0, none⟩ = some (.slice (some ⟨g', 0, none⟩) ls.length cap') := (cell_same (bw.out.block b hb0)).trans hd
          have hc2 := (cell_same (o := i) (bw.out.block g' hgl')).trans hcg
          have hf2 := (frozen_same (o := i) (bw.out.block g' hgl')).trans hfz0
          subst eo
          clear O' R1 PT hd hcg hfz0
          go_wp2_with fail
          go_roundw
          case measure => simp only [intOf]; omega
          case rel =>
            refine ⟨i + 1, _, _, _, rfl, hlt, HPT.out.1, tw.out.trans HPT.out.2, by unfold Hid; rw [List.length_set]; exact hl2.out, fun j h1 h2 => ?_⟩
            rw [List.length_set] at h2
            by_cases e : i = j
            · subst e
              rw [List.getElem_set_self]
              exact ⟨fun _ => by rw [HLI.out], fun q => absurd q (by omega)⟩
            · rw [List.getElem_set_ne e]
              exact ⟨fun q => (HL.out j h1 h2).1 (by omega), fun q => (HL.out j h1 h2).2 (by omega)⟩
    · obtain rfl : i = ls.length := by omega
      have hd := HT.out.head
      rw [ev] at hd
      go_wp2
      go_end0
      refine ⟨rfl, F', ⟨v, vs, ?_⟩, tw.out⟩
      have e : l2 = ls.map (cutL p upto) := List.ext_getElem (by rw [List.length_map]; exact hl2.out) fun j h1 h2 => by
        rw [List.getElem_map]
        have h3 : j < ls.length := by rw [← hl2.out]; exact h1
        exact (HL.out j h3 h1).1 h3
      rw [← e]
      exact HT.out
theorem rexpire_any (F : Nat → Prop) (b : Nat) (ls : List (List Sl)) (upto : Int) (m : Nat) (w : World) (h : TAt F w b ls) (hs : Small m ls) (hm : m ≤ 1000000000) (hn : 0 < ls.length) (hn2 : ls.length ≤ 1000000) :
    Calls Try.prog 32 #[.pointer (some ⟨b, 0, none⟩), .int .i64 upto] w fun e w' => e = .returned (.tuple #[]) ∧ ∃ F', TAt F' w' b (ls.map (cutL (fun _ => true) upto)) ∧ Tn F F' w w' := by
  have cC := rcut_all F b ls (-1) upto (by omega) _ rfl m w h hs hm hn hn2
  generalize ls.map (cutL (fun _ => true) upto) = l2 at *
  clear h hs
  go_enter Try.func32, Try.ntmps32
  go_wp2_with (go_at_call 59; refine cC.mono ?_; rintro e w1 ⟨rfl, F', T1, t1⟩)
  go_end0
  exact ⟨rfl, F', T1, t1⟩
theorem cut_nobody {ls : List (List Sl)} (hl : OkT ls) {R u : Int} (hR : R < 0) : ls.map (cutL (isR R) u) = ls := by
  refine (List.map_congr_left (g := id) fun l hm => ?_).trans (List.map_id ls)
  refine ok_ext (cut_ok _ _ (hl l hm)) (hl l hm) fun t r => ?_
  rw [cut_has]
  refine ⟨fun q => q.1, fun q => ⟨q, fun e => ?_⟩⟩
  obtain ⟨s, hs, rfl, _⟩ := q
  have h1 := ((hl l hm).fit s hs).2.2.2
  have h2 : s.r = R := by simpa [isR] using e
  omega
theorem rrelease_any (F : Nat → Prop) (b : Nat) (ls : List (List Sl)) (R upto : Int) (m : Nat) (w : World) (h : TAt F w b ls) (hl : OkT ls) (hs : Small m ls) (hm : m ≤ 1000000000) (hn : 0 < ls.length) (hn2 : ls.length ≤ 1000000) :
    Calls Try.prog 31 #[.pointer (some ⟨b, 0, none⟩), .int .i64 R, .int .i64 upto] w fun e w' => e = .returned (.tuple #[]) ∧ ∃ F', TAt F' w' b (ls.map (cutL (isR R) upto)) ∧ Tn F F' w w' := by
  by_cases hR : R < 0
  · rw [cut_nobody hl hR]
    have HT : Hid (TAt F w b ls) := h
    have hg : ¬ R ≥ 0 := by omega
    clear h hs hl
    go_enter Try.func31, Try.ntmps31
    go_wp2
    go_end0
    exact ⟨rfl, F, HT.out, Tn.below (Below.refl _ _)⟩
  · have cC := rcut_one F b ls R upto hR _ rfl m w h hs hm hn hn2
    have hg : R ≥ 0 := by omega
    generalize ls.map (cutL (isR R) upto) = l2 at *
    clear h hs hl
    go_enter Try.func31, Try.ntmps31
    go_wp2_with (go_at_call 59; refine cC.mono ?_; rintro e w1 ⟨rfl, F', T1, t1⟩)
    go_end0
    exact ⟨rfl, F', T1, t1⟩
theorem rclear_any (F : Nat → Prop) (b : Nat) (ls : List (List Sl)) (R : Int) (m : Nat) (w : World) (h : TAt F w b ls) (hl : OkT ls) (hs : Small m ls) (hm : m ≤ 1000000000) (hn : 0 < ls.length) (hn2 : ls.length ≤ 1000000) :
    Calls Try.prog 33 #[.pointer (some ⟨b, 0, none⟩), .int .i64 R] w fun e w' => e = .returned (.tuple #[]) ∧ ∃ F', TAt F' w' b (ls.map (cutL (isR R) FV)) ∧ Tn F F' w w' := by
  by_cases hR : R < 0
  · rw [cut_nobody hl hR]
    have HT : Hid (TAt F w b ls) := h
    have hg : ¬ R ≥ 0 := by omega
    clear h hs hl
    go_enter Try.func33, Try.ntmps33
    go_wp2
    go_end0
    exact ⟨rfl, F, HT.out, Tn.below (Below.refl _ _)⟩
  · have cC := rcut_one F b ls R FV hR _ rfl m w h hs hm hn hn2
    have hg : R ≥ 0 := by omega
    generalize ls.map (cutL (isR R) FV) = l2 at *
    unfold FV at cC
    clear h hs hl
    go_enter Try.func33, Try.ntmps33
    go_wp2_with (go_at_call 59; refine cC.mono ?_; rintro e w1 ⟨rfl, F', T1, t1⟩)
    go_end0
    exact ⟨rfl, F', T1, t1⟩
end Go.Proofs.Ytddkgkafgjdheaa.Rs
