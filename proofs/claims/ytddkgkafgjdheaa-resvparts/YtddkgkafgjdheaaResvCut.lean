/-
  What is given back: cut, Release, Expire, Clear.
-/
import Derived.Test.YtddkgkafgjdheaaResvClaim
namespace Go.Proofs.Ytddkgkafgjdheaa.Rs
set_option linter.unusedVariables false
set_option linter.unusedSimpArgs false
open Go Go.RowKit Go.Shelf Go.Proofs Hp
attribute [local go_sem] Oper.semAt_some

/- One cell's slots are laid anew. -/
theorem TIn.put {F : Nat → Prop} {w0 w : World} {b : Nat} {v : Value} {vals : List Value} {ls : List (List Sl)} (h : TIn F w0 b v vals ls) (hb : Below w0.heap.size w0 w) (g i : Nat) (hg : v.ownBlock = some g) (hi : i < ls.length) (rv : Value) (l' : List Sl) (hr : RowAt slL (fun k => (F k ∧ k ≠ b ∧ v.ownBlock ≠ some k) ∨ w0.heap.size ≤ k) w rv l') :
    TIn (fun k => F k ∨ (w0.heap.size ≤ k ∧ k < w.heap.size)) (w.setCell ⟨g, i, none⟩ rv) b v (vals.set i rv) (ls.set i l') ∧ Tn F (fun k => F k ∨ (w0.heap.size ≤ k ∧ k < w.heap.size)) w0 (w.setCell ⟨g, i, none⟩ rv) := by
  have hF := h.low
  have hgF := h.hg g hg
  have hgl := hF g hgF.1
  have hst : ∀ k, k ≠ g → (w.setCell ⟨g, i, none⟩ rv).heap[k]? = w.heap[k]? := fun k hk => Below.heap_setCell _ _ _ k hk
  have hsz : (w.setCell ⟨g, i, none⟩ rv).heap.size = w.heap.size := by simp [World.setCell]
  have hrow := owns_go h.row hb
  obtain ⟨a, cap, ev, _⟩ := own_form hrow
  have ea : a = some ⟨g, 0, none⟩ := by
    rcases hrow.2 with ⟨e, _⟩ | ⟨g', cap', cur, e, _⟩
    · rw [e] at hg; cases hg
    · rw [e] at hg
      cases hg
      rw [e] at ev
      cases ev
      rfl
  subst ea
  subst ev
  have hbg : b ≠ g := fun e => hgF.2 e.symm
  refine ⟨⟨?_, ?_, ?_, ?_, ?_, ?_, ?_, ?_⟩, ?_⟩
  · exact (cell_same (hst b hbg)).trans ((cell_same (hb.block b (hF b h.hb))).trans h.head)
  · intro o; exact (frozen_same (hst b hbg)).trans ((frozen_same (hb.block b (hF b h.hb))).trans (h.frz o))
  · have := (hrow.stored i rv).1
    rw [List.length_set]
    simpa using this
  · rw [List.length_set, List.length_set]; exact h.len
  · exact Or.inl h.hb
  · intro k hk; exact ⟨Or.inl (h.hg k hk).1, (h.hg k hk).2⟩
  · intro k hk
    rw [hsz]
    rcases hk with q | q
    · exact Nat.lt_of_lt_of_le (hF k q) hb.size
    · exact q.2
  · intro j h1 h2
    rw [List.length_set] at h1 h2
    have keep : ∀ (u : Value) (l : List Sl), RowAt slL (fun k => (F k ∧ k ≠ b ∧ (Value.slice (some ⟨g, 0, none⟩) ls.length cap).ownBlock ≠ some k) ∨ w0.heap.size ≤ k) w u l → RowAt slL (fun k => (F k ∨ (w0.heap.size ≤ k ∧ k < w.heap.size)) ∧ k ≠ b ∧ (Value.slice (some ⟨g, 0, none⟩) ls.length cap).ownBlock ≠ some k) (w.setCell ⟨g, i, none⟩ rv) u l := fun u l hu => by
      refine ((hu.old slL_len).mono fun k hk => ?_).same fun k hk => hst k (fun e => hk.2.2 (by rw [e]; rfl))
      obtain ⟨q1, q2⟩ := hk
      rcases q1 with q | q
      · exact ⟨Or.inl q.1, q.2⟩
      · have hbl := hF b h.hb
        exact ⟨Or.inr ⟨q, q2⟩, by omega, fun e => by have e' : g = k := (by injection e); omega⟩
    by_cases e : i = j
    · subst e; simp only [List.getElem_set_self]; exact keep _ _ hr
    · rw [List.getElem_set_ne e, List.getElem_set_ne e]
      exact keep _ _ (((h.each j h1 h2).go slL_len hb).mono fun k hk => Or.inl hk)
  · exact ⟨hb.os, hb.tape, hb.output, by rw [hsz]; exact hb.size, fun k hk hn => (hst k (fun e => hn (by rw [e]; exact hgF.1))).trans (hb.block k hk), fun k hk => by
      rcases hk with q | q
      · exact Or.inl q
      · exact Or.inr q.1⟩
theorem cell_new (u : World) (a b c : Value) (T : TypeId) : (u.alloc (.cells #[a, b, c] T)).cell? ⟨u.heap.size, 0, none⟩ = some a ∧ (u.alloc (.cells #[a, b, c] T)).cell? ⟨u.heap.size, 1, none⟩ = some b ∧ (u.alloc (.cells #[a, b, c] T)).cell? ⟨u.heap.size, 2, none⟩ = some c := by simp
theorem cutL_snoc (p : Int → Bool) (u : Int) (l : List Sl) (s : Sl) : cutL p u (l ++ [s]) = cutL p u l ++ (if (cut1 p u s).f < s.t then [cut1 p u s] else []) := by
  unfold cutL
  rw [List.map_append, List.filter_append]
  congr 1
  by_cases h : (cut1 p u s).f < s.t <;> simp [h, cut1_t]
set_option maxRecDepth 100000 in
set_option maxHeartbeats 4000000 in
theorem cut_any (F : Nat → Prop) (b : Nat) (ls : List (List Sl)) (upto : Int) (gf : Nat) (cb : Array Value) (p : Int → Bool) (m : Nat) (w : World) (h : TAt F w b ls) (hs : Small m ls) (hm : m ≤ 1000000000) (hn : 0 < ls.length) (hn2 : ls.length ≤ 1000000) (eg : ∀ args w, (callFunc gf args).run Try.prog w = .ok (.enter gf args) w)
    (hf : ∀ u F', Tn F F' w u → ∀ r, Calls Try.prog gf (#[.int .i64 r] ++ cb) u fun e w' => e = .returned (.bool (p r)) ∧ w' = u) :
    Calls Try.prog 49 #[.pointer (some ⟨b, 0, none⟩), .int .i64 upto, .func (.func gf) #[] cb] w fun e w' => e = .returned (.tuple #[]) ∧ ∃ F', TAt F' w' b (ls.map (cutL p upto)) ∧ Tn F F' w w' := by
  obtain ⟨v, vals, TI⟩ := h
  obtain ⟨g, cap, ev, hgb, hFg, hgl, hlc, hcm, hfz, hcell⟩ := TI.form hn
  have HF : Hid _ := hf
  have HTI : Hid (TIn F w b v vals ls) := TI
  have hd := TI.head
  rw [ev] at hd
  clear hf hcell TI
  go_enter Try.func49, Try.ntmps49
  go_wp2_with fail
  go_loopw [16] (fun s16 wr => ∃ (i : Nat) (F' : Nat → Prop) (vs : List Value) (l2 : List (List Sl)), s16 = .int .i64 i ∧ i ≤ ls.length ∧ Hid (TIn F' wr b v vs l2) ∧ Hid (Tn F F' w wr) ∧ Hid (l2.length = ls.length) ∧ Hid (∀ j (h1 : j < ls.length) (h2 : j < l2.length), (j < i → l2[j] = cutL p upto ls[j]) ∧ (i ≤ j → l2[j] = ls[j]))) (fun s16 _ => ls.length - (intOf s16).toNat)
  case atStart => exact ⟨0, F, vals, ls, rfl, Nat.zero_le _, HTI, Tn.below (Below.refl _ _), rfl, fun j h1 h2 => ⟨fun q => absurd q (Nat.not_lt_zero _), fun _ => rfl⟩⟩
  case round =>
    clear hd hfz
    obtain ⟨i, F', vs, l2, rfl, hi, HT, tw, hl2, HL⟩ := hrel
    obtain ⟨W0, rfl⟩ : ∃ W0, W0 = wr := ⟨_, rfl⟩
    rcases Nat.lt_or_ge i ls.length with hlt | hge
    · have hi2 : i < l2.length := by rw [hl2.out]; exact hlt
      have hiv : i < vs.length := by rw [HT.out.len]; exact hi2
      have RO := HT.out.each i hi2 hiv
      rw [(HL.out i hlt hi2).2 (Nat.le_refl _)] at RO
      obtain ⟨g', cap', ev', hgb', hFg', hgl', hlc', hcm', hfz', hcell'⟩ := HT.out.form (by omega)
      have hcg := hcell' i hiv
      have egg : g' = g ∧ cap' = cap := by
        have e0 := ev.symm.trans ev'
        injection e0 with e1 e2 e3
        injection e1 with e4
        injection e4 with e5
        exact ⟨e5.symm, e3.symm⟩
      obtain ⟨rfl, rfl⟩ := egg
      have hd := HT.out.head
      rw [ev] at hd
      have hfz0 := hfz' i
      have hvg : v.ownBlock = some g' := by rw [ev]; rfl
      obtain ⟨ra, rn, rc, er⟩ := RO.shape
      have hlm : (ls[i]).length ≤ m := hs _ (List.getElem_mem hlt)
      have hb0 := (HT.out.low b HT.out.hb)
      obtain ⟨l, hl⟩ : ∃ l, ls[i] = l := ⟨_, rfl⟩
      rw [hl] at RO hlm
      rw [er] at hcg RO
      have hlen : rn = l.length := by obtain ⟨y1, y2, y3, _⟩ := RO.form; injection y3
      have HRO : Hid (RowAt slL (fun k => F' k ∧ k ≠ b ∧ v.ownBlock ≠ some k) W0 (.slice ra rn rc) l) := RO
      have HLI : Hid (ls[i] = l) := hl
      have hlt' : (i : Int) < (ls.length : Int) := by omega
      have hsm : (i : Int) + 1 ≤ 1000000000 := by omega
      clear hcell' er RO hl
      subst hlen
      go_wp2_with fail
      go_loopw [8, 23] (fun s8 s23 wr => ∃ j : Nat, s23 = .int .i64 j ∧ j ≤ l.length ∧ Hid (wr.ownsRow W0.heap.size 40 3 s8 (cutL p upto (l.take j)).length (rowL slL (cutL p upto (l.take j)))) ∧ Hid (Below W0.heap.size W0 wr)) (fun _ s23 _ => l.length - (intOf s23).toNat)
      case atStart => exact ⟨0, rfl, Nat.zero_le _, World.ownsRow_nil _ _ _ _, Below.refl _ _⟩
      case round =>
        obtain ⟨j, rfl, hj, O, bw⟩ := hrel
        obtain ⟨oa, oc, eo, _⟩ := own_form O.out
        rcases Nat.lt_or_ge j l.length with hjl | hjg
        · obtain ⟨g2, o2, cap2, e2, c0, c1, c2⟩ := box_item (HRO.out.go slL_len bw.out) j hjl
          cases e2
          have hjl' : (j : Int) < (l.length : Int) := by omega
          have hjs : (j : Int) + 1 ≤ 1000000000 := by omega
          have hT : Hid (cutL p upto (l.take (j + 1)) = cutL p upto (l.take j) ++ (if (cut1 p upto l[j]).f < (l[j]).t then [cut1 p upto l[j]] else [])) := by unfold Hid; rw [List.take_succ_eq_append_getElem hjl, cutL_snoc]
          have hcl : Hid ((cutL p upto (l.take j)).length ≤ 1000000000) := by unfold Hid; have := cutL_len p upto (l.take j); rw [List.length_take] at this; omega
          obtain ⟨s, hs'⟩ : ∃ s, l[j] = s := ⟨_, rfl⟩
          rw [hs'] at c0 c1 c2 hT
          clear hs'
          obtain ⟨w5, hw5⟩ : ∃ w5, wr.alloc (.cells #[.int .i64 s.f, .int .i64 s.t, .int .i64 s.r] 40) = w5 := ⟨_, rfl⟩
          have b5 : Below wr.heap.size wr w5 := by rw [← hw5]; exact (Below.refl _ _).alloc (Nat.le_refl _) _
          have z0 : w5.cell? ⟨wr.heap.size, 0, none⟩ = some (.int .i64 s.f) := by rw [← hw5]; simp
          have z1 : w5.cell? ⟨wr.heap.size, 1, none⟩ = some (.int .i64 s.t) := by rw [← hw5]; simp
          have z2 : w5.cell? ⟨wr.heap.size, 2, none⟩ = some (.int .i64 s.r) := by rw [← hw5]; simp
          have z3 : w5.frozen? ⟨wr.heap.size, 0, none⟩ = false := by rw [← hw5]; simp
          have lz : wr.heap.size < w5.heap.size := World.block_lt_of_cell? _ _ z0
          have cP := HF.out w5 F' (tw.out.trans (Tn.below (bcat bw.out b5))) s.r
          cases hp : p s.r with
          | true =>
            rw [hp] at cP
            have ec : cut1 p upto s = ⟨max s.f upto, s.t, s.r⟩ := by unfold cut1; rw [if_pos hp]
            have bX : Below wr.heap.size wr (w5.setCell ⟨wr.heap.size, 0, none⟩ (.int .i64 (max s.f upto))) := b5.setCell (p := ⟨wr.heap.size, 0, none⟩) (Nat.le_refl _) _
            have BX : Below W0.heap.size W0 (w5.setCell ⟨wr.heap.size, 0, none⟩ (.int .i64 (max s.f upto))) := bcat bw.out bX
            have hxz : (w5.setCell ⟨wr.heap.size, 0, none⟩ (.int .i64 (max s.f upto))).heap.size = w5.heap.size := by simp [World.setCell]
            by_cases kc : max s.f upto < s.t
            · skip
              obtain ⟨w7, hw7⟩ : ∃ w7, (w5.setCell ⟨wr.heap.size, 0, none⟩ (.int .i64 (max s.f upto))).alloc (.cells #[.int .i64 (max s.f upto), .int .i64 s.t, .int .i64 s.r] 40) = w7 := ⟨_, rfl⟩
              have b7 : Below W0.heap.size W0 w7 := by rw [← hw7]; exact BX.alloc (by have := BX.size; omega) _
              have bx7 : Below wr.heap.size wr w7 := by rw [← hw7]; exact bX.alloc bX.size _
              have nn := cell_new (w5.setCell ⟨wr.heap.size, 0, none⟩ (.int .i64 (max s.f upto))) (.int .i64 (max s.f upto)) (.int .i64 s.t) (.int .i64 s.r) 40
              rw [hw7] at nn
              rw [hxz] at nn
              obtain ⟨n0, n1, n2⟩ := nn
              have hrow := owns_go O.out bx7
              rw [eo] at hrow
              have HW7 : Hid ((w5.setCell ⟨wr.heap.size, 0, none⟩ (.int .i64 (max s.f upto))).alloc (.cells #[.int .i64 (max s.f upto), .int .i64 s.t, .int .i64 s.r] 40) = w7) := hw7
              have e1 : Hid (cutL p upto (l.take (j + 1)) = cutL p upto (l.take j) ++ [⟨max s.f upto, s.t, s.r⟩]) := by unfold Hid; rw [hT.out, ec, if_pos kc]
              clear hw7
              subst eo
              go_wp2_with (first | (go_at_fn gf; refine cP.mono ?_; rintro e w6 ⟨rfl, rfl⟩) | (at_builtin; (try rw [HW7.out]); refine wpList_app kindSl rfl (.tmp 41) (.tmp 43) rfl W0.heap.size (.slice oa (cutL p upto (l.take j)).length oc) (cutL p upto (l.take j)) rfl hrow _ [⟨max s.f upto, s.t, s.r⟩] rfl (lone_at n0 n1 n2) (by have := hcl.out; simp; omega) (by have := hcl.out; unfold maxLen; simp; omega) b7.size ?_; intro v2 w2 o2 g2 a2))
              go_roundw
              case measure => simp only [intOf]; omega
              case rel => exact ⟨j + 1, rfl, hjl, by rw [e1.out]; exact o2, b7.grown g2 b7.size (fun k hk => (own_since O.out k hk).1)⟩
            · skip
              have e1 : Hid (cutL p upto (l.take (j + 1)) = cutL p upto (l.take j)) := by unfold Hid; rw [hT.out, ec, if_neg kc, List.append_nil]
              have O2 : Hid ((w5.setCell ⟨wr.heap.size, 0, none⟩ (.int .i64 (max s.f upto))).ownsRow W0.heap.size 40 3 _ (cutL p upto (l.take j)).length (rowL slL (cutL p upto (l.take j)))) := owns_go O.out bX
              have kd : decide (max s.f upto < s.t) = false := decide_eq_false kc
              clear kc
              subst eo
              go_wp2_with (go_at_fn gf; refine cP.mono ?_; rintro e w6 ⟨rfl, rfl⟩)
              go_roundw
              case measure => simp only [intOf]; omega
              case rel => exact ⟨j + 1, rfl, hjl, by rw [e1.out]; exact O2, BX⟩
          | false =>
            rw [hp] at cP
            have ec : cut1 p upto s = s := by unfold cut1; rw [if_neg (by rw [hp]; simp)]
            have bX : Below wr.heap.size wr w5 := b5
            have BX : Below W0.heap.size W0 w5 := bcat bw.out bX
            by_cases kc : s.f < s.t
            · skip
              obtain ⟨w7, hw7⟩ : ∃ w7, w5.alloc (.cells #[.int .i64 (s.f), .int .i64 s.t, .int .i64 s.r] 40) = w7 := ⟨_, rfl⟩
              have b7 : Below W0.heap.size W0 w7 := by rw [← hw7]; exact BX.alloc (by have := BX.size; omega) _
              have bx7 : Below wr.heap.size wr w7 := by rw [← hw7]; exact bX.alloc bX.size _
              have nn := cell_new w5 (.int .i64 (s.f)) (.int .i64 s.t) (.int .i64 s.r) 40
              rw [hw7] at nn
              obtain ⟨n0, n1, n2⟩ := nn
              have hrow := owns_go O.out bx7
              rw [eo] at hrow
              have HW7 : Hid (w5.alloc (.cells #[.int .i64 (s.f), .int .i64 s.t, .int .i64 s.r] 40) = w7) := hw7
              have e1 : Hid (cutL p upto (l.take (j + 1)) = cutL p upto (l.take j) ++ [⟨s.f, s.t, s.r⟩]) := by unfold Hid; rw [hT.out, ec, if_pos kc]
              clear hw7
              subst eo
              go_wp2_with (first | (go_at_fn gf; refine cP.mono ?_; rintro e w6 ⟨rfl, rfl⟩) | (at_builtin; (try rw [HW7.out]); refine wpList_app kindSl rfl (.tmp 41) (.tmp 43) rfl W0.heap.size (.slice oa (cutL p upto (l.take j)).length oc) (cutL p upto (l.take j)) rfl hrow _ [⟨s.f, s.t, s.r⟩] rfl (lone_at n0 n1 n2) (by have := hcl.out; simp; omega) (by have := hcl.out; unfold maxLen; simp; omega) b7.size ?_; intro v2 w2 o2 g2 a2))
              go_roundw
              case measure => simp only [intOf]; omega
              case rel => exact ⟨j + 1, rfl, hjl, by rw [e1.out]; exact o2, b7.grown g2 b7.size (fun k hk => (own_since O.out k hk).1)⟩
            · skip
              have e1 : Hid (cutL p upto (l.take (j + 1)) = cutL p upto (l.take j)) := by unfold Hid; rw [hT.out, ec, if_neg kc, List.append_nil]
              have O2 : Hid (w5.ownsRow W0.heap.size 40 3 _ (cutL p upto (l.take j)).length (rowL slL (cutL p upto (l.take j)))) := owns_go O.out bX
              have kd : decide (s.f < s.t) = false := decide_eq_false kc
              clear kc
              subst eo
              go_wp2_with (go_at_fn gf; refine cP.mono ?_; rintro e w6 ⟨rfl, rfl⟩)
              go_roundw
              case measure => simp only [intOf]; omega
              case rel => exact ⟨j + 1, rfl, hjl, by rw [e1.out]; exact O2, BX⟩
        · obtain rfl : j = l.length := by omega
          have O' := O.out
          rw [List.take_length] at O' eo
          have R1 := (row_of_own slL_len O').mono (G := fun k => (F' k ∧ k ≠ b ∧ v.ownBlock ≠ some k) ∨ W0.heap.size ≤ k) fun k hk => Or.inr hk.2.1
          have PT := HT.out.put bw.out g' i hvg hi2 _ _ R1
          have HPT : Hid _ := PT
          have hd2 : wr.cell? ⟨b, 0, none⟩ = some (.slice (some ⟨g', 0, none⟩) l2.length cap') := (cell_same (bw.out.block b hb0)).trans (by rw [hl2.out]; exact hd)
          have hc2 := (cell_same (o := i) (bw.out.block g' hgl')).trans hcg
          have hf2 := (frozen_same (o := i) (bw.out.block g' hgl')).trans hfz0
          have hi2' : (i : Int) < (l2.length : Int) := by omega
          subst eo
          clear O' R1 PT hd hcg hfz0
          go_wp2_with fail
          go_roundw
          case measure => simp only [intOf]; omega
          case rel =>
            refine ⟨i + 1, _, _, _, rfl, hlt, HPT.out.1, tw.out.trans HPT.out.2, by unfold Hid; rw [List.length_set]; exact hl2.out, fun j h1 h2 => ?_⟩
            rw [List.length_set] at h2
            by_cases e : i = j
            · subst e
              rw [List.getElem_set_self]
              exact ⟨fun _ => by rw [HLI.out], fun q => absurd q (by omega)⟩
            · rw [List.getElem_set_ne e]
              exact ⟨fun q => (HL.out j h1 h2).1 (by omega), fun q => (HL.out j h1 h2).2 (by omega)⟩
    · obtain rfl : i = ls.length := by omega
      go_wp2
      go_end0
      refine ⟨rfl, F', ⟨v, vs, ?_⟩, tw.out⟩
      have e : l2 = ls.map (cutL p upto) := List.ext_getElem (by rw [List.length_map]; exact hl2.out) fun j h1 h2 => by
        rw [List.getElem_map]
        have h3 : j < ls.length := by rw [← hl2.out]; exact h1
        exact (HL.out j h3 h1).1 h3
      rw [← e]
      exact HT.out
end Go.Proofs.Ytddkgkafgjdheaa.Rs
