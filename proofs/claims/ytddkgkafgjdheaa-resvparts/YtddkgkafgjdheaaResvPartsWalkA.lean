/-
  What is claimed in parts, in any order, is as if it were claimed at once.
-/
import Derived.Test.YtddkgkafgjdheaaResvPartsFacts
namespace Go.Proofs.Ytddkgkafgjdheaa.Rs
set_option linter.unusedVariables false
set_option linter.unusedSimpArgs false
open Go Go.RowKit Go.Shelf Go.Proofs Hp
attribute [local go_sem] Oper.semAt_some

set_option maxRecDepth 100000 in
set_option maxHeartbeats 30000000 in
theorem parts_short (C0 : Int) (a2 : Option Addr) (n2 cap2 : Nat) (zs : List Int) (a : Option Addr) (n cap : Nat) (os : List Cl) (w : World) (hin : InS w a n cap os) (hin2 : InN w a2 n2 cap2 zs) (hcs : os.length ≤ 20) : Calls Try.prog 11 #[.slice a n cap, .int .i64 C0, .slice a2 n2 cap2] w fun e w' => e = .returned (.bool true) ∧ Below w.heap.size w w' := by
  have HIN : Hid (InS w a n cap os) := hin
  have hol := hin.len
  subst hol
  have HNU : Hid (InN w a2 n2 cap2 zs) := hin2
  clear hin hin2
  obtain ⟨C, hC⟩ : ∃ C : Nat, place C0 6 = (C : Nat) := ⟨(place C0 6).toNat, by have := place_bd C0 6 (by omega); omega⟩
  have hC6 : Hid (C < 6) := by unfold Hid; have := place_bd C0 6 (by omega); omega
  have cP := fun u => place_any C0 6 u (by omega) (by omega)
  simp only [hC] at cP
  clear hC
  go_enter Try.func11, Try.ntmps11
  go_wp2_with (first
    | (go_at_call 21; refine (cP _).mono ?_; rintro _ wz ⟨rfl, hwz⟩; have hwz' := hwz.symm; subst hwz')
    | (have X9 := b1; go_at_call 12; refine (new_any 6 w1 (by omega) (by omega)).mono ?_; rintro _ w2 ⟨d, rfl, H, T2, b2, f2⟩)
    | (go_at_call 12; refine (new_any 6 w (by omega) (by omega)).mono ?_; rintro _ w1 ⟨b, rfl, F, T1, b1, f1⟩)
    | (have X9 := b3; go_at_call 15; refine (refNew_any 6 w3 (by omega) (by omega)).mono ?_; rintro _ w4 ⟨e5, rfl, K, T4, b4, f4⟩)
    | (go_at_call 15; refine (refNew_any 6 w2 (by omega) (by omega)).mono ?_; rintro _ w3 ⟨c, rfl, G, T3, b3, f3⟩))
  have P0 : Hid (P2 w b c d e5 0 w4) := by
    have l1 := T1.low; have l2 := T2.low; have l3 := T3.low; have s1 := b1.size; have s2 := b2.size; have s3 := b3.size
    refine ⟨_, F, G, H, K, T1.go (bcat b2 (bcat b3 b4)), T3.go b4, T2.go (bcat b3 b4), T4, fun k h1 h2 => ?_, fun k h1 h2 => ?_, fun k h1 => ⟨fun h2 => ?_, fun h2 => ?_⟩, fun k h1 => ⟨fun h2 => ?_, fun h2 => ?_⟩, bcat b1 (bcat b2 (bcat b3 b4)), fun k hk => ?_, bare_ok 6, bare_ok 6, bare_small 6 _, by simp, by simp⟩
    · have := l1 k h2; have := f3 k h1; omega
    · have := l2 k h2; have := f4 k h1; omega
    · have := l1 k h2; have := f2 k h1; omega
    · have := l2 k h1; have := f3 k h2; omega
    · have := l1 k h2; have := f4 k h1; omega
    · have := l3 k h2; have := f4 k h1; omega
    · rcases hk with q | q | q | q
      · exact f1 k q
      · have := f3 k q; omega
      · have := f2 k q; omega
      · have := f4 k q; omega
  clear cP T1 b1 f1 T2 b2 f2 T3 b3 f3 T4 b4 f4
  go_loopw [13] (fun s6 wr => ∃ i : Nat, s6 = .int .i64 i ∧ i ≤ os.length ∧ i ≤ 20 ∧ Hid (P2 w b c d e5 i wr)) (fun s6 _ => os.length - (intOf s6).toNat)
  case atStart => exact ⟨0, rfl, Nat.zero_le _, Nat.zero_le _, P0⟩
  case round =>
    clear P0
    obtain ⟨i, rfl, hi, hi60, PL⟩ := hrel
    by_cases hgo : i < os.length ∧ i < 20
    · obtain ⟨hlt, hl60⟩ := hgo
      have hlt' : (i : Int) < (os.length : Int) := by omega
      have hl60' : (i : Int) < 20 := by omega
      have his : (i : Int) + 1 ≤ 1000 := by omega
      obtain ⟨p, ea, c0, c1, c2, c3, c4, c5, IW⟩ := (HIN.out.go PL.out.bw).at i hlt
      have IW0 : Hid (InW w (os[i]).a (os[i]).n (os[i]).cap (os[i]).ws) := by obtain ⟨_, _, _, q⟩ := HIN.out.lay i hlt; exact q
      subst ea
      have HRd : Hid (∀ u, Below w.heap.size w u → u.cell? (p.add (i * 6)) = some (.int .i64 (os[i]).kd) ∧ u.cell? ⟨(p.add (i * 6)).block, (p.add (i * 6)).off + 1, none⟩ = some (.int .i64 (os[i]).r) ∧ u.cell? ⟨(p.add (i * 6)).block, (p.add (i * 6)).off + 2, none⟩ = some (.int .i64 (os[i]).c) ∧ u.cell? ⟨(p.add (i * 6)).block, (p.add (i * 6)).off + 3, none⟩ = some (.int .i64 (os[i]).ti) ∧ u.cell? ⟨(p.add (i * 6)).block, (p.add (i * 6)).off + 4, none⟩ = some (.int .i64 (os[i]).by_) ∧ u.cell? ⟨(p.add (i * 6)).block, (p.add (i * 6)).off + 5, none⟩ = some (.slice (os[i]).a (os[i]).n (os[i]).cap)) := fun u hu => by
        obtain ⟨p', ep, q0, q1, q2, q3, q4, q5, _⟩ := (HIN.out.go hu).at i hlt
        cases ep
        exact ⟨q0, q1, q2, q3, q4, q5⟩
      obtain ⟨x, hx⟩ : ∃ x, os[i] = x := ⟨_, rfl⟩
      rw [hx] at c0 c1 c2 c3 c4 c5 IW0 HRd
      clear hx IW
      by_cases hbig : x.n > 30
      · have hb' : (x.n : Int) > 30 := by omega
        go_wp2_with (go_at_call 13; refine (awake_any _).mono ?_; rintro _ w9 ⟨rfl, b9⟩)
        go_ret
        exact ⟨rfl, bcat PL.out.bw b9⟩
      · have hb' : ¬ (x.n : Int) > 30 := by omega
        have cD := do_half PL.out (by omega) x IW0.out (by omega)
        have hx60 : x.n ≤ 60 := by omega
        go_wp2_with (first
          | (have X9 := cD2; go_at_call 16; refine cD2.mono ?_; rintro _ w6 ⟨rfl, P6⟩)
          | (go_at_call 16; refine cD.mono ?_; rintro _ w5 ⟨rfl, P5⟩; obtain ⟨q0, q1, q2, q3, q4, q5⟩ := HRd.out w5 P5.bw; have cD2 := do_other P5 (by omega) IW0.out hx60; clear P5))
        go_roundw
        case measure => simp only [intOf]; omega
        case rel => exact ⟨i + 1, rfl, hlt, hl60, P6⟩
    · obtain ⟨W3, rfl⟩ : ∃ W3, W3 = wr := ⟨_, rfl⟩
      obtain ⟨ls, F, G, H, K, h1, h2, h3, h4, h5, h6, h7, h8, h9, h10, h11, h12, h13, h14, h15⟩ := PL.out
      have HTB : Hid (TAt F W3 b ls) := h1
      have HTD : Hid (TAt H W3 d ls) := h3
      have HDJ : Hid (∀ k, H k → ¬ F k) := fun k hk => (h7 k hk).1
      have HB3 : Hid (Below w.heap.size w W3) := h9
      have HLF : Hid (∀ k, F k → w.heap.size ≤ k) := fun k hk => h10 k (Or.inl hk)
      have HLH : Hid (∀ k, H k → w.heap.size ≤ k) := fun k hk => h10 k (Or.inr (Or.inr (Or.inl hk)))
      have HOK : Hid (OkT ls) := h11
      have HSM : Hid (Small 1200 ls) := fun l hl => by have := h13 l hl; omega
      have HLN : Hid (ls.length = 6) := h14
      clear h1 h2 h3 h4 h5 h6 h7 h8 h9 h10 h11 h12 h13 h14 h15 PL
      have hlt' : ¬ (i : Int) < (os.length : Int) := by omega
      clear hgo
      go_wp2_with fail
      go_loopw [14, 15, 16, 17] (fun s14 s15 s16 s17 wr => ∃ (i : Nat) (f t : Int) (l : List Wn), s17 = .int .i64 i ∧ s15 = .int .i64 f ∧ s16 = .int .i64 t ∧ i ≤ zs.length ∧ i ≤ 12 ∧ Hid (wr.ownsRow W3.heap.size 46 3 s14 l.length (rowL wnL l)) ∧ Hid (Pa C f t l i) ∧ Hid (Below W3.heap.size W3 wr)) (fun _ _ _ s17 _ => zs.length - (intOf s17).toNat)
      case atStart => exact ⟨0, 1048576, 1048576, [], rfl, rfl, rfl, Nat.zero_le _, Nat.zero_le _, World.ownsRow_nil _ _ _ _, Pa.start C, Below.refl _ _⟩
      case round =>
        obtain ⟨i, f, t, l, rfl, rfl, rfl, hi, hi12, O, HPA, bw⟩ := hrel
        have hnl := HNU.out.len
        by_cases hgo : i < zs.length ∧ i < 12
        · obtain ⟨hlt, hl12⟩ := hgo
          obtain ⟨oa, oc, eo, _⟩ := own_form O.out
          obtain ⟨p, ea, z0⟩ := (HNU.out.go (bcat HB3.out bw.out)).lay i hlt
          subst ea
          have hlt' : (i : Int) < (n2 : Int) := by omega
          have hl12' : (i : Int) < 12 := by omega
          have his : (i : Int) + 1 ≤ 1000 := by omega
          obtain ⟨z, hz⟩ : ∃ z, zs[i] = z := ⟨_, rfl⟩
          rw [hz] at z0
          clear hz
          have pb := place_bd z 9 (by omega)
          have cM := fun u => place_any z 9 u (by omega) (by omega)
          obtain ⟨q, hq⟩ : ∃ q, place z 9 = q := ⟨_, rfl⟩
          simp only [hq] at cM
          rw [hq] at pb
          clear hq
          obtain ⟨pb1, pb2⟩ := pb
          have hlo := HPA.out.lo
          have hhi := HPA.out.hi
          have hll := HPA.out.len
          have f0 : 1048576 - 108 ≤ f := by omega
          have t0 : t ≤ 1048576 + 108 := by omega
          by_cases hev : (z.tmod 2 == 0) = true
          · skip
            obtain ⟨w4, hw4⟩ : ∃ w4, wr.alloc (.cells #[.int .i64 (C : Nat), .int .i64 (t), .int .i64 (t + (1 + q))] 46) = w4 := ⟨_, rfl⟩
            have b4 : Below wr.heap.size wr w4 := by rw [← hw4]; exact (Below.refl _ _).alloc (Nat.le_refl _) _
            have n4 := cell_new wr (.int .i64 (C : Nat)) (.int .i64 (t)) (.int .i64 (t + (1 + q))) 46
            rw [hw4] at n4
            obtain ⟨n0, n1, n3⟩ := n4
            have hrow := owns_go O.out b4
            rw [eo] at hrow
            have HW4 : Hid (wr.alloc (.cells #[.int .i64 (C : Nat), .int .i64 (t), .int .i64 (t + (1 + q))] 46) = w4) := hw4
            have B4 : Hid (Below W3.heap.size W3 w4) := bcat bw.out b4
            have HPA2 : Hid (Pa C (f) (t + (1 + q)) (l ++ [⟨(C : Nat), t, t + (1 + q)⟩]) (i + 1)) := HPA.out.right (n := 1 + q) (by omega) (by omega)
            clear hw4 b4
            subst eo
            go_wp2_with (first
              | (go_at_call 21; refine (cM _).mono ?_; rintro _ wz ⟨rfl, hwz⟩; have hwz' := hwz.symm; subst hwz')
              | (at_builtin; (try rw [HW4.out]); refine wpList_app kindWn rfl (.tmp 95) (.tmp 102) rfl W3.heap.size (.slice oa l.length oc) l rfl hrow _ [⟨(C : Nat), t, t + (1 + q)⟩] rfl (lone_wn n0 n1 n3) (by simp; omega) (by unfold maxLen; simp; omega) B4.out.size ?_; intro v5 w5 o5 g5 a5))
            go_roundw
            case measure => simp only [intOf]; omega
            case rel => exact ⟨i + 1, f, t + (1 + q), l ++ [(⟨(C : Nat), t, t + (1 + q)⟩ : Wn)], rfl, rfl, rfl, hlt, hl12, o5, HPA2, B4.out.grown g5 B4.out.size (fun k hk => (own_since hrow k hk).1)⟩
          · have hev' : (z.tmod 2 == 0) = false := by simpa using hev
            clear hev
            obtain ⟨w4, hw4⟩ : ∃ w4, wr.alloc (.cells #[.int .i64 (C : Nat), .int .i64 (f - (1 + q)), .int .i64 (f)] 46) = w4 := ⟨_, rfl⟩
            have b4 : Below wr.heap.size wr w4 := by rw [← hw4]; exact (Below.refl _ _).alloc (Nat.le_refl _) _
            have n4 := cell_new wr (.int .i64 (C : Nat)) (.int .i64 (f - (1 + q))) (.int .i64 (f)) 46
            rw [hw4] at n4
            obtain ⟨n0, n1, n3⟩ := n4
            have hrow := owns_go O.out b4
            rw [eo] at hrow
            have HW4 : Hid (wr.alloc (.cells #[.int .i64 (C : Nat), .int .i64 (f - (1 + q)), .int .i64 (f)] 46) = w4) := hw4
            have B4 : Hid (Below W3.heap.size W3 w4) := bcat bw.out b4
            have HPA2 : Hid (Pa C (f - (1 + q)) (t) (l ++ [⟨(C : Nat), f - (1 + q), f⟩]) (i + 1)) := HPA.out.left (n := 1 + q) (by omega) (by omega)
            clear hw4 b4
            subst eo
            go_wp2_with (first
              | (go_at_call 21; refine (cM _).mono ?_; rintro _ wz ⟨rfl, hwz⟩; have hwz' := hwz.symm; subst hwz')
              | (at_builtin; (try rw [HW4.out]); refine wpList_app kindWn rfl (.tmp 107) (.tmp 114) rfl W3.heap.size (.slice oa l.length oc) l rfl hrow _ [⟨(C : Nat), f - (1 + q), f⟩] rfl (lone_wn n0 n1 n3) (by simp; omega) (by unfold maxLen; simp; omega) B4.out.size ?_; intro v5 w5 o5 g5 a5))
            go_roundw
            case measure => simp only [intOf]; omega
            case rel => exact ⟨i + 1, f - (1 + q), t, l ++ [(⟨(C : Nat), f - (1 + q), f⟩ : Wn)], rfl, rfl, rfl, hlt, hl12, o5, HPA2, B4.out.grown g5 B4.out.size (fun k hk => (own_since hrow k hk).1)⟩
        · obtain ⟨la, lc, eo, _⟩ := own_form O.out
          subst eo
          obtain ⟨s14v, hs14⟩ : ∃ v : Value, v = .slice la l.length lc := ⟨_, rfl⟩
          have HEL : Hid (s14v = .slice la l.length lc) := hs14
          rw [← hs14] at O
          clear hs14
          obtain ⟨W5, rfl⟩ : ∃ W5, W5 = wr := ⟨_, rfl⟩
          have hl2 := HPA.out.len
          by_cases hlt : i < zs.length
          · have hlt' : (i : Int) < (n2 : Int) := by omega
            have hl12' : ¬ (i : Int) < 12 := by omega
            clear hgo hlt
            have hpa := HPA.out
            have hlo := hpa.lo
            have hhi := hpa.hi
            by_cases heq : f = t
            · have heq' : (f == t) = true := by simp [heq]
              clear heq hlo hhi hpa
              go_wp2_with (go_at_call 13; refine (awake_any _).mono ?_; rintro _ w9 ⟨rfl, b9⟩)
              go_ret
              exact ⟨rfl, bcat (bcat HB3.out bw.out) b9⟩
            have heq' : (f == t) = false := by simp [heq]
            have HFT : Hid (f < t) := by unfold Hid; omega
            have TB := HTB.out.go bw.out
            have TD := HTD.out.go bw.out
            have nA := cell_new W5 (.int .i64 (C : Nat)) (.int .i64 f) (.int .i64 t) 46
            obtain ⟨wA, hwA⟩ : ∃ wA, W5.alloc (.cells #[.int .i64 (C : Nat), .int .i64 f, .int .i64 t] 46) = wA := ⟨_, rfl⟩
            have bA : Below W5.heap.size W5 wA := by rw [← hwA]; exact (Below.refl _ _).alloc (Nat.le_refl _) _
            rw [hwA] at nA
            have cA := claim_any F (fun _ => True) b ls 9 (.slice (some ⟨W5.heap.size, 0, none⟩) 1 1) [⟨(C : Nat), f, t⟩] 1200 wA (TB.go bA) HOK.out HSM.out (by have := HLN.out; omega) (by have := HLN.out; omega) (want_row (x := ⟨(C : Nat), f, t⟩) nA.1 nA.2.1 nA.2.2) (by simp)
            have HWA : Hid (W5.alloc (.cells #[.int .i64 (C : Nat), .int .i64 f, .int .i64 t] 46) = wA) := hwA
            have RL0 : Hid (RowAt wnL (fun k => W3.heap.size ≤ k ∧ k < W5.heap.size) W5 s14v l) := (row_of_own wnL_len O.out).mono fun k hk => hk.2
            have HTD1 : Hid (TAt H wA d ls) := TD.go bA
            have HBA : Hid (Below w.heap.size w wA) := bcat HB3.out (bcat bw.out bA)
            have RLA : Hid (RowAt wnL (fun k => W3.heap.size ≤ k ∧ k < W5.heap.size) wA s14v l) := RL0.out.go wnL_len bA
            have hsA : Hid (W3.heap.size ≤ W5.heap.size ∧ W5.heap.size ≤ wA.heap.size) := ⟨bw.out.size, bA.size⟩
            clear heq hlo hhi hwA bA TB TD nA bw O hpa
            go_wp2_with (go_at_call 19; (try rw [HWA.out]); refine cA.mono ?_; rintro _ w6 ⟨ea, ls1, F1, rfl, T6, t6, C6⟩)
            have HC6 : Hid (ClaimR 9 [⟨(C : Nat), f, t⟩] ls ea ls1) := C6
            have HT6 : Hid (TAt F1 w6 b ls1) := T6
            have HTD6 : Hid (TAt H w6 d ls) := HTD1.out.beside t6 HDJ.out
            have HDJ6 : Hid (∀ k, H k → ¬ F1 k) := t6.apart HDJ.out HTD1.out.low
            have HB6 : Hid (Below w.heap.size w w6) := (t6.past HBA.out HLF.out).1
            have RL6 : Hid (RowAt wnL (fun k => W3.heap.size ≤ k ∧ k < W5.heap.size) w6 s14v l) := RLA.out.same fun k hk => t6.block k (by have := hsA.out; omega) (fun e => by have := HTB.out.low k e; omega)
            have HSM1 : Hid (Small 1201 ls1) := fun x hx => by have := C6.small HSM.out x hx; simpa using this
            have HLN1 : Hid (ls1.length = 6) := by unfold Hid; rw [C6.len]; exact HLN.out
            have hs6 : Hid (W5.heap.size ≤ w6.heap.size) := Nat.le_trans hsA.out.2 t6.size
            clear cA T6 t6 C6 HTD1 HBA RLA RL0
            go_loopw [20, 21] (fun s20 s21 wr => ∃ (i : Nat) (eb : Int) (H1 : Nat → Prop) (lk : List (List Sl)), s21 = .int .i64 i ∧ s20 = .int .i64 eb ∧ i ≤ l.length ∧ Hid (TAt F1 wr b ls1) ∧ Hid (TAt H1 wr d lk) ∧ Hid (∀ k, H1 k → ¬ F1 k) ∧ Hid (∀ k, H1 k → w.heap.size ≤ k) ∧ Hid (Below w.heap.size w wr) ∧ Hid (RowAt wnL (fun k => W3.heap.size ≤ k ∧ k < W5.heap.size) wr s14v l) ∧ Hid (∀ k, H1 k → k < W3.heap.size ∨ W5.heap.size ≤ k) ∧ Hid (W5.heap.size ≤ wr.heap.size) ∧ Hid (Pb C (rowOf ls (C : Nat)) f t l i eb lk)) (fun _ s21 _ => l.length - (intOf s21).toNat)
            case atStart => exact ⟨0, 0, H, ls, rfl, rfl, Nat.zero_le _, HT6, HTD6, HDJ6, HLH, HB6, RL6, fun k hk => Or.inl (HTD.out.low k hk), hs6, Pb.start f t l HOK.out HSM.out HLN.out⟩
            case round =>
              clear HT6 HTD6 HDJ6 HB6 RL6 hs6
              obtain ⟨i, eb, H1, lk, rfl, rfl, hi, HT7, HTD7, HDJ7, HLH7, HB7, RL7, HSP, hs7, HPB⟩ := hrel
              have hln := HPA.out.len
              rcases Nat.lt_or_ge i l.length with hil | hig
              · have hil' : (i : Int) < (l.length : Int) := by omega
                have his : (i : Int) + 1 ≤ 1000 := by omega
                obtain ⟨pv, prun, RP⟩ := part_wn RL7.out i hil
                rw [HEL.out] at prun
                obtain ⟨pa, pn, pc, ep⟩ : ∃ a n c, pv = .slice a n c := by obtain ⟨a, c, e, _⟩ := RP.form; exact ⟨a, _, c, e⟩
                rw [ep] at prun RP
                have cC := claim_any H1 (fun k => W3.heap.size ≤ k ∧ k < W5.heap.size) d lk 9 (.slice pa pn pc) [l[i]] (1200 + i) wr HTD7.out HPB.out.gk.ok HPB.out.gk.small (by have := HPB.out.gk.len; omega) (by have := HPB.out.gk.len; omega) RP (by simp; omega)
                have HNX : Hid (∀ e lk', ClaimR 9 [l[i]] lk e lk' → (e = 0 ∧ Pb C (rowOf ls (C : Nat)) f t l (i + 1) eb lk') ∨ (e = 18 ∧ Pb C (rowOf ls (C : Nat)) f t l (i + 1) 18 lk')) := fun e lk' c => HPB.out.next (HOK.out.row _) hC6.out HPA.out (by omega) hil c
                have HPR : Hid (∀ u, (Instr.sliceAt 31 (.slice la l.length lc) (some (.int .i64 (i : Nat))) (some (.int .i64 ((i : Int) + 1))) none).run Try.prog u = .ok (.slice pa pn pc) u) := prun
                clear RP ep prun
                go_upto_region 34 with (first
                  | (go_at_call 19; refine cC.mono ?_; rintro _ w8 ⟨ec, lk2, H2, rfl, T8, t8, C8⟩; have HD8 : Hid _ := HNX.out ec lk2 C8; clear C8)
                  | (refine wpList_sub rfl _ _ _ _ rfl (HPR.out _) ?_))
                clear cC
                rcases HD8.out with ⟨he, P8⟩ | ⟨he, P8⟩
                · clear HD8
                  obtain ⟨DB, DH⟩ := t8.past HB7.out HLH7.out
                  have HT8 : Hid (TAt F1 w8 b ls1) := HT7.out.beside t8 (fun k a e => HDJ7.out k e a)
                  have HTD8 : Hid (TAt H2 w8 d lk2) := T8
                  have HDJ8 : Hid (∀ k, H2 k → ¬ F1 k) := fun k hk e => (t8.own k hk).elim (fun z => HDJ7.out k z e) fun z => by have := HT7.out.low k e; omega
                  have HLH8 : Hid (∀ k, H2 k → w.heap.size ≤ k) := DH
                  have HB8 : Hid (Below w.heap.size w w8) := DB
                  have RL8 : Hid (RowAt wnL (fun k => W3.heap.size ≤ k ∧ k < W5.heap.size) w8 s14v l) := RL7.out.same fun k hk => t8.block k (Nat.lt_of_lt_of_le hk.2 hs7.out) fun e => by have := HSP.out k e; omega
                  have HSP8 : Hid (∀ k, H2 k → k < W3.heap.size ∨ W5.heap.size ≤ k) := fun k hk => (t8.own k hk).elim (HSP.out k) fun z => Or.inr (Nat.le_trans hs7.out z)
                  have hs8 : Hid (W5.heap.size ≤ w8.heap.size) := Nat.le_trans hs7.out t8.size
                  have HPB8 : Hid (Pb C (rowOf ls (C : Nat)) f t l (i + 1) eb lk2) := P8
                  subst he
                  clear DB DH T8 t8 P8 HT7 HTD7 HDJ7 HLH7 HB7 RL7 HSP hs7 HPB HNX
                  go_wp2_with fail
                  go_roundw
                  case measure => simp only [intOf]; omega
                  case rel => exact ⟨i + 1, eb, H2, lk2, rfl, rfl, hil, HT8, HTD8, HDJ8, HLH8, HB8, RL8, HSP8, hs8, HPB8⟩
                · clear HD8
                  obtain ⟨DB, DH⟩ := t8.past HB7.out HLH7.out
                  have HT8 : Hid (TAt F1 w8 b ls1) := HT7.out.beside t8 (fun k a e => HDJ7.out k e a)
                  have HTD8 : Hid (TAt H2 w8 d lk2) := T8
                  have HDJ8 : Hid (∀ k, H2 k → ¬ F1 k) := fun k hk e => (t8.own k hk).elim (fun z => HDJ7.out k z e) fun z => by have := HT7.out.low k e; omega
                  have HLH8 : Hid (∀ k, H2 k → w.heap.size ≤ k) := DH
                  have HB8 : Hid (Below w.heap.size w w8) := DB
                  have RL8 : Hid (RowAt wnL (fun k => W3.heap.size ≤ k ∧ k < W5.heap.size) w8 s14v l) := RL7.out.same fun k hk => t8.block k (Nat.lt_of_lt_of_le hk.2 hs7.out) fun e => by have := HSP.out k e; omega
                  have HSP8 : Hid (∀ k, H2 k → k < W3.heap.size ∨ W5.heap.size ≤ k) := fun k hk => (t8.own k hk).elim (HSP.out k) fun z => Or.inr (Nat.le_trans hs7.out z)
                  have hs8 : Hid (W5.heap.size ≤ w8.heap.size) := Nat.le_trans hs7.out t8.size
                  have HPB8 : Hid (Pb C (rowOf ls (C : Nat)) f t l (i + 1) 18 lk2) := P8
                  subst he
                  clear DB DH T8 t8 P8 HT7 HTD7 HDJ7 HLH7 HB7 RL7 HSP hs7 HPB HNX
                  go_wp2_with fail
                  go_roundw
                  case measure => simp only [intOf]; omega
                  case rel => exact ⟨i + 1, 18, H2, lk2, rfl, rfl, hil, HT8, HTD8, HDJ8, HLH8, HB8, RL8, HSP8, hs8, HPB8⟩
              · have hin2 : ¬ (i : Int) < (l.length : Int) := by omega
                obtain hie : i = l.length := by omega
                have hend := parts_end HOK.out HLN.out hC6.out HFT.out HPA.out hi12 (by have := HPB.out; rw [hie] at this; exact this) HC6.out
                clear hig hi hie
                rcases hend with ⟨h1, h2, h3⟩ | ⟨h1, h2⟩
                · subst h1 h2
                  have HR3 : Hid (rowOf ls1 (C : Nat) = rowOf lk (C : Nat)) := h3
                  have hr1 := HSM1.out.row (C : Nat)
                  have c1 := slots_any F1 b ls1 (C : Nat) wr HT7.out (by omega)
                  have c2 := fun u (q : Below wr.heap.size wr u) => slots_any H1 d lk (C : Nat) u (HTD7.out.go q) (by rw [← h3]; omega)
                  simp only [← h3] at c2
                  obtain ⟨L, hL⟩ : ∃ L, rowOf ls1 (C : Nat) = L := ⟨_, rfl⟩
                  rw [hL] at c1 hr1
                  simp only [hL] at c2
                  clear h3 hL
                  go_wp2_with (first
                    | (have X9 := o8; go_at_call 18; refine (c2 w8 b8).mono ?_; rintro _ w9 ⟨v9, rfl, o9, b9⟩)
                    | (go_at_call 18; refine c1.mono ?_; rintro _ w8 ⟨v8, rfl, o8, b8⟩)
                    | (go_at_call 20; refine (sameSlots_any _ _ v8 v9 L L _ ((row_of_own slL_len o8).go slL_len b9) (row_of_own slL_len o9) (by omega)).mono ?_; rintro _ w10 ⟨rfl, b10⟩; rw [decide_eq_true (show L = L from rfl)])
                    | (go_at_call 13; refine (awake_any _).mono ?_; rintro _ w11 ⟨rfl, b11⟩))
                  go_ret
                  exact ⟨rfl, bcat HB7.out (bcat b8 (bcat b9 (bcat b10 b11)))⟩
                · subst h1
                  have hne : (eb != 0) = true := by simp [h2]
                  clear h2
                  go_wp2_with (go_at_call 13; refine (awake_any _).mono ?_; rintro _ w9 ⟨rfl, b9⟩)
                  go_ret
                  exact ⟨rfl, bcat HB7.out b9⟩
          · have hlt' : ¬ (i : Int) < (n2 : Int) := by omega
            clear hgo hlt
            have hpa := HPA.out
            have hlo := hpa.lo
            have hhi := hpa.hi
            by_cases heq : f = t
            · have heq' : (f == t) = true := by simp [heq]
              clear heq hlo hhi hpa
              go_wp2_with (go_at_call 13; refine (awake_any _).mono ?_; rintro _ w9 ⟨rfl, b9⟩)
              go_ret
              exact ⟨rfl, bcat (bcat HB3.out bw.out) b9⟩
            have heq' : (f == t) = false := by simp [heq]
            have HFT : Hid (f < t) := by unfold Hid; omega
            have TB := HTB.out.go bw.out
            have TD := HTD.out.go bw.out
            have nA := cell_new W5 (.int .i64 (C : Nat)) (.int .i64 f) (.int .i64 t) 46
            obtain ⟨wA, hwA⟩ : ∃ wA, W5.alloc (.cells #[.int .i64 (C : Nat), .int .i64 f, .int .i64 t] 46) = wA := ⟨_, rfl⟩
            have bA : Below W5.heap.size W5 wA := by rw [← hwA]; exact (Below.refl _ _).alloc (Nat.le_refl _) _
            rw [hwA] at nA
            have cA := claim_any F (fun _ => True) b ls 9 (.slice (some ⟨W5.heap.size, 0, none⟩) 1 1) [⟨(C : Nat), f, t⟩] 1200 wA (TB.go bA) HOK.out HSM.out (by have := HLN.out; omega) (by have := HLN.out; omega) (want_row (x := ⟨(C : Nat), f, t⟩) nA.1 nA.2.1 nA.2.2) (by simp)
            have HWA : Hid (W5.alloc (.cells #[.int .i64 (C : Nat), .int .i64 f, .int .i64 t] 46) = wA) := hwA
            have RL0 : Hid (RowAt wnL (fun k => W3.heap.size ≤ k ∧ k < W5.heap.size) W5 s14v l) := (row_of_own wnL_len O.out).mono fun k hk => hk.2
            have HTD1 : Hid (TAt H wA d ls) := TD.go bA
            have HBA : Hid (Below w.heap.size w wA) := bcat HB3.out (bcat bw.out bA)
            have RLA : Hid (RowAt wnL (fun k => W3.heap.size ≤ k ∧ k < W5.heap.size) wA s14v l) := RL0.out.go wnL_len bA
            have hsA : Hid (W3.heap.size ≤ W5.heap.size ∧ W5.heap.size ≤ wA.heap.size) := ⟨bw.out.size, bA.size⟩
            clear heq hlo hhi hwA bA TB TD nA bw O hpa
            go_wp2_with (go_at_call 19; (try rw [HWA.out]); refine cA.mono ?_; rintro _ w6 ⟨ea, ls1, F1, rfl, T6, t6, C6⟩)
            have HC6 : Hid (ClaimR 9 [⟨(C : Nat), f, t⟩] ls ea ls1) := C6
            have HT6 : Hid (TAt F1 w6 b ls1) := T6
            have HTD6 : Hid (TAt H w6 d ls) := HTD1.out.beside t6 HDJ.out
            have HDJ6 : Hid (∀ k, H k → ¬ F1 k) := t6.apart HDJ.out HTD1.out.low
            have HB6 : Hid (Below w.heap.size w w6) := (t6.past HBA.out HLF.out).1
            have RL6 : Hid (RowAt wnL (fun k => W3.heap.size ≤ k ∧ k < W5.heap.size) w6 s14v l) := RLA.out.same fun k hk => t6.block k (by have := hsA.out; omega) (fun e => by have := HTB.out.low k e; omega)
            have HSM1 : Hid (Small 1201 ls1) := fun x hx => by have := C6.small HSM.out x hx; simpa using this
            have HLN1 : Hid (ls1.length = 6) := by unfold Hid; rw [C6.len]; exact HLN.out
            have hs6 : Hid (W5.heap.size ≤ w6.heap.size) := Nat.le_trans hsA.out.2 t6.size
            clear cA T6 t6 C6 HTD1 HBA RLA RL0
            go_loopw [20, 21] (fun s20 s21 wr => ∃ (i : Nat) (eb : Int) (H1 : Nat → Prop) (lk : List (List Sl)), s21 = .int .i64 i ∧ s20 = .int .i64 eb ∧ i ≤ l.length ∧ Hid (TAt F1 wr b ls1) ∧ Hid (TAt H1 wr d lk) ∧ Hid (∀ k, H1 k → ¬ F1 k) ∧ Hid (∀ k, H1 k → w.heap.size ≤ k) ∧ Hid (Below w.heap.size w wr) ∧ Hid (RowAt wnL (fun k => W3.heap.size ≤ k ∧ k < W5.heap.size) wr s14v l) ∧ Hid (∀ k, H1 k → k < W3.heap.size ∨ W5.heap.size ≤ k) ∧ Hid (W5.heap.size ≤ wr.heap.size) ∧ Hid (Pb C (rowOf ls (C : Nat)) f t l i eb lk)) (fun _ s21 _ => l.length - (intOf s21).toNat)
            case atStart => exact ⟨0, 0, H, ls, rfl, rfl, Nat.zero_le _, HT6, HTD6, HDJ6, HLH, HB6, RL6, fun k hk => Or.inl (HTD.out.low k hk), hs6, Pb.start f t l HOK.out HSM.out HLN.out⟩
            case round =>
              clear HT6 HTD6 HDJ6 HB6 RL6 hs6
              obtain ⟨i, eb, H1, lk, rfl, rfl, hi, HT7, HTD7, HDJ7, HLH7, HB7, RL7, HSP, hs7, HPB⟩ := hrel
              have hln := HPA.out.len
              rcases Nat.lt_or_ge i l.length with hil | hig
              · have hil' : (i : Int) < (l.length : Int) := by omega
                have his : (i : Int) + 1 ≤ 1000 := by omega
                obtain ⟨pv, prun, RP⟩ := part_wn RL7.out i hil
                rw [HEL.out] at prun
                obtain ⟨pa, pn, pc, ep⟩ : ∃ a n c, pv = .slice a n c := by obtain ⟨a, c, e, _⟩ := RP.form; exact ⟨a, _, c, e⟩
                rw [ep] at prun RP
                have cC := claim_any H1 (fun k => W3.heap.size ≤ k ∧ k < W5.heap.size) d lk 9 (.slice pa pn pc) [l[i]] (1200 + i) wr HTD7.out HPB.out.gk.ok HPB.out.gk.small (by have := HPB.out.gk.len; omega) (by have := HPB.out.gk.len; omega) RP (by simp; omega)
                have HNX : Hid (∀ e lk', ClaimR 9 [l[i]] lk e lk' → (e = 0 ∧ Pb C (rowOf ls (C : Nat)) f t l (i + 1) eb lk') ∨ (e = 18 ∧ Pb C (rowOf ls (C : Nat)) f t l (i + 1) 18 lk')) := fun e lk' c => HPB.out.next (HOK.out.row _) hC6.out HPA.out (by omega) hil c
                have HPR : Hid (∀ u, (Instr.sliceAt 31 (.slice la l.length lc) (some (.int .i64 (i : Nat))) (some (.int .i64 ((i : Int) + 1))) none).run Try.prog u = .ok (.slice pa pn pc) u) := prun
                clear RP ep prun
                go_upto_region 34 with (first
                  | (go_at_call 19; refine cC.mono ?_; rintro _ w8 ⟨ec, lk2, H2, rfl, T8, t8, C8⟩; have HD8 : Hid _ := HNX.out ec lk2 C8; clear C8)
                  | (refine wpList_sub rfl _ _ _ _ rfl (HPR.out _) ?_))
                clear cC
                rcases HD8.out with ⟨he, P8⟩ | ⟨he, P8⟩
                · clear HD8
                  obtain ⟨DB, DH⟩ := t8.past HB7.out HLH7.out
                  have HT8 : Hid (TAt F1 w8 b ls1) := HT7.out.beside t8 (fun k a e => HDJ7.out k e a)
                  have HTD8 : Hid (TAt H2 w8 d lk2) := T8
                  have HDJ8 : Hid (∀ k, H2 k → ¬ F1 k) := fun k hk e => (t8.own k hk).elim (fun z => HDJ7.out k z e) fun z => by have := HT7.out.low k e; omega
                  have HLH8 : Hid (∀ k, H2 k → w.heap.size ≤ k) := DH
                  have HB8 : Hid (Below w.heap.size w w8) := DB
                  have RL8 : Hid (RowAt wnL (fun k => W3.heap.size ≤ k ∧ k < W5.heap.size) w8 s14v l) := RL7.out.same fun k hk => t8.block k (Nat.lt_of_lt_of_le hk.2 hs7.out) fun e => by have := HSP.out k e; omega
                  have HSP8 : Hid (∀ k, H2 k → k < W3.heap.size ∨ W5.heap.size ≤ k) := fun k hk => (t8.own k hk).elim (HSP.out k) fun z => Or.inr (Nat.le_trans hs7.out z)
                  have hs8 : Hid (W5.heap.size ≤ w8.heap.size) := Nat.le_trans hs7.out t8.size
                  have HPB8 : Hid (Pb C (rowOf ls (C : Nat)) f t l (i + 1) eb lk2) := P8
                  subst he
                  clear DB DH T8 t8 P8 HT7 HTD7 HDJ7 HLH7 HB7 RL7 HSP hs7 HPB HNX
                  go_wp2_with fail
                  go_roundw
                  case measure => simp only [intOf]; omega
                  case rel => exact ⟨i + 1, eb, H2, lk2, rfl, rfl, hil, HT8, HTD8, HDJ8, HLH8, HB8, RL8, HSP8, hs8, HPB8⟩
                · clear HD8
                  obtain ⟨DB, DH⟩ := t8.past HB7.out HLH7.out
                  have HT8 : Hid (TAt F1 w8 b ls1) := HT7.out.beside t8 (fun k a e => HDJ7.out k e a)
                  have HTD8 : Hid (TAt H2 w8 d lk2) := T8
                  have HDJ8 : Hid (∀ k, H2 k → ¬ F1 k) := fun k hk e => (t8.own k hk).elim (fun z => HDJ7.out k z e) fun z => by have := HT7.out.low k e; omega
                  have HLH8 : Hid (∀ k, H2 k → w.heap.size ≤ k) := DH
                  have HB8 : Hid (Below w.heap.size w w8) := DB
                  have RL8 : Hid (RowAt wnL (fun k => W3.heap.size ≤ k ∧ k < W5.heap.size) w8 s14v l) := RL7.out.same fun k hk => t8.block k (Nat.lt_of_lt_of_le hk.2 hs7.out) fun e => by have := HSP.out k e; omega
                  have HSP8 : Hid (∀ k, H2 k → k < W3.heap.size ∨ W5.heap.size ≤ k) := fun k hk => (t8.own k hk).elim (HSP.out k) fun z => Or.inr (Nat.le_trans hs7.out z)
                  have hs8 : Hid (W5.heap.size ≤ w8.heap.size) := Nat.le_trans hs7.out t8.size
                  have HPB8 : Hid (Pb C (rowOf ls (C : Nat)) f t l (i + 1) 18 lk2) := P8
                  subst he
                  clear DB DH T8 t8 P8 HT7 HTD7 HDJ7 HLH7 HB7 RL7 HSP hs7 HPB HNX
                  go_wp2_with fail
                  go_roundw
                  case measure => simp only [intOf]; omega
                  case rel => exact ⟨i + 1, 18, H2, lk2, rfl, rfl, hil, HT8, HTD8, HDJ8, HLH8, HB8, RL8, HSP8, hs8, HPB8⟩
              · have hin2 : ¬ (i : Int) < (l.length : Int) := by omega
                obtain hie : i = l.length := by omega
                have hend := parts_end HOK.out HLN.out hC6.out HFT.out HPA.out hi12 (by have := HPB.out; rw [hie] at this; exact this) HC6.out
                clear hig hi hie
                rcases hend with ⟨h1, h2, h3⟩ | ⟨h1, h2⟩
                · subst h1 h2
                  have HR3 : Hid (rowOf ls1 (C : Nat) = rowOf lk (C : Nat)) := h3
                  have hr1 := HSM1.out.row (C : Nat)
                  have c1 := slots_any F1 b ls1 (C : Nat) wr HT7.out (by omega)
                  have c2 := fun u (q : Below wr.heap.size wr u) => slots_any H1 d lk (C : Nat) u (HTD7.out.go q) (by rw [← h3]; omega)
                  simp only [← h3] at c2
                  obtain ⟨L, hL⟩ : ∃ L, rowOf ls1 (C : Nat) = L := ⟨_, rfl⟩
                  rw [hL] at c1 hr1
                  simp only [hL] at c2
                  clear h3 hL
                  go_wp2_with (first
                    | (have X9 := o8; go_at_call 18; refine (c2 w8 b8).mono ?_; rintro _ w9 ⟨v9, rfl, o9, b9⟩)
                    | (go_at_call 18; refine c1.mono ?_; rintro _ w8 ⟨v8, rfl, o8, b8⟩)
                    | (go_at_call 20; refine (sameSlots_any _ _ v8 v9 L L _ ((row_of_own slL_len o8).go slL_len b9) (row_of_own slL_len o9) (by omega)).mono ?_; rintro _ w10 ⟨rfl, b10⟩; rw [decide_eq_true (show L = L from rfl)])
                    | (go_at_call 13; refine (awake_any _).mono ?_; rintro _ w11 ⟨rfl, b11⟩))
                  go_ret
                  exact ⟨rfl, bcat HB7.out (bcat b8 (bcat b9 (bcat b10 b11)))⟩
                · subst h1
                  have hne : (eb != 0) = true := by simp [h2]
                  clear h2
                  go_wp2_with (go_at_call 13; refine (awake_any _).mono ?_; rintro _ w9 ⟨rfl, b9⟩)
                  go_ret
                  exact ⟨rfl, bcat HB7.out b9⟩
end Go.Proofs.Ytddkgkafgjdheaa.Rs
