/-
  The chapter's own table: Slots, First, Gaps; stretches as pairs.
-/
import Derived.Test.YtddkgkafgjdheaaResvWas
namespace Go.Proofs.Ytddkgkafgjdheaa.Rs
set_option linter.unusedVariables false
set_option linter.unusedSimpArgs false
open Go Go.RowKit Go.Shelf Go.Proofs Hp
attribute [local go_sem] Oper.semAt_some

theorem rslots_any (F : Nat → Prop) (b : Nat) (v : Value) (vals : List Value) (ls : List (List Sl)) (c : Int) (w : World) (h : TIn F w b v vals ls) : Calls Try.prog 37 #[.pointer (some ⟨b, 0, none⟩), .int .i64 c] w fun e w' => ∃ v', e = .returned v' ∧ w' = w ∧ RowAt slL (fun k => F k ∧ k ≠ b ∧ v.ownBlock ≠ some k) w v' (rowOf ls c) := by
  have cT := rthere_any F b ls c w ⟨v, vals, h⟩
  cases ht : isThere ls.length c with
  | true =>
    obtain ⟨i, hi, rfl, e⟩ := rowOf_in ht
    rw [ht] at cT
    rw [e]
    have hv : i < vals.length := by rw [h.len]; exact hi
    have hE := h.each i hi hv
    obtain ⟨g, cap, rfl, _, _, _, _, _, _, hc⟩ := h.form (by omega)
    have h1 := h.head
    have h2 := hc i hv
    have hi2 : (i : Int) < (ls.length : Int) := by omega
    obtain ⟨a, ca, ea, _⟩ := hE.form
    generalize vals[i] = u at *
    generalize ls[i] = l at *
    generalize ls.length = n at *
    subst ea
    clear h hc ht e hv hi
    go_enter Try.func37, Try.ntmps37
    go_wp2_with (go_at_call 55; refine cT.mono ?_; rintro e w1 ⟨rfl, rfl⟩)
    go_ret
    exact ⟨_, rfl, rfl, hE⟩
  | false =>
    rw [ht] at cT
    rw [rowOf_out ht]
    clear h ht
    go_enter Try.func37, Try.ntmps37
    go_wp2_with (go_at_call 55; refine cT.mono ?_; rintro e w1 ⟨rfl, rfl⟩)
    go_ret
    exact ⟨_, rfl, rfl, RowAt.nil _ _ _⟩
set_option maxRecDepth 100000 in
theorem rfirst_any (F : Nat → Prop) (b : Nat) (ls : List (List Sl)) (c : Int) (w : World) (h : TAt F w b ls) : Calls Try.prog 36 #[.pointer (some ⟨b, 0, none⟩), .int .i64 c] w fun e w' => e = .returned (.tuple #[.int .i64 (firstP (rowOf ls c)).1, .bool (firstP (rowOf ls c)).2]) ∧ w' = w := by
  obtain ⟨v, vals, h⟩ := h
  have cO := rslots_any F b v vals ls c w h
  generalize rowOf ls c = l at *
  clear h
  rcases l with _ | ⟨s, l⟩
  · go_enter Try.func36, Try.ntmps36
    go_wp2_with (go_at_call 37; refine cO.mono ?_; rintro e w1 ⟨v', rfl, rfl, R⟩; obtain ⟨a, cap, rfl, _⟩ := R.form; simp only [List.length_nil])
    refine bodyPost_ret (results_tmp2 Try.results36 _ _ _) rfl ?_
    exact ⟨rfl, rfl⟩
  · have hn : (((s :: l).length : Int) == 0) = false := by rw [beq_eq_false_iff_ne]; have : 0 < (s :: l).length := (by simp); omega
    have hp : (0 : Int) < ((s :: l).length : Int) := by have : 0 < (s :: l).length := (by simp); omega
    have hf : firstP (s :: l) = (s.r, true) := rfl
    rw [hf]
    have hR : ∀ v', RowAt slL (fun k => F k ∧ k ≠ b ∧ v.ownBlock ≠ some k) w v' (s :: l) → ∃ g o cap, v' = .slice (some ⟨g, o, none⟩) (s :: l).length cap ∧ w.cell? ⟨g, o + 2, none⟩ = some (.int .i64 s.r) := fun v' R => by
      obtain ⟨g, o, cap, rfl, _, _, _, R⟩ := R.has (by simp)
      have r := R.at slL_len 0 (by simp) 2 (.int .i64 s.r) rfl
      rw [Nat.zero_mul, Nat.add_zero] at r
      exact ⟨g, o, cap, rfl, r⟩
    have cO' : Calls Try.prog 37 #[.pointer (some ⟨b, 0, none⟩), .int .i64 c] w fun e w' => ∃ v', e = .returned v' ∧ w' = w ∧ ∃ g o cap, v' = .slice (some ⟨g, o, none⟩) (s :: l).length cap ∧ w.cell? ⟨g, o + 2, none⟩ = some (.int .i64 s.r) := cO.mono (fun e w' ⟨v', e1, e2, R⟩ => ⟨v', e1, e2, hR v' R⟩)
    clear hR cO hf
    generalize (s :: l).length = n at *
    go_enter Try.func36, Try.ntmps36
    go_wp2_with (go_at_call 37; refine cO'.mono ?_; rintro e w1 ⟨v', rfl, rfl, g, o, cap, rfl, r⟩)
    refine bodyPost_ret (results_tmp2 Try.results36 _ _ _) rfl ?_
    exact ⟨rfl, rfl⟩
theorem infoG : (Try.prog.info? 92).map (fun i => (i.zero, i.size, i.bytes)) = some (some (.agg #[.int .i64 0, .int .i64 0]), 2, 16) := by kernel_rfl
theorem kindG : Kind prL 77 92 2 16 :=
  ⟨fun _ => rfl, fun x u hu => by simp [prL] at hu; rcases hu with rfl | rfl <;> rfl, Try.underlying77, by decide, by obtain ⟨i0, hi, hz0, hz1, hz2⟩ := info_parts infoG; exact ⟨i0, _, hi, hz0, hz1, hz2, rfl⟩⟩
theorem cell_new2 (u : World) (a b : Value) (T : TypeId) : (u.alloc (.cells #[a, b] T)).cell? ⟨u.heap.size, 0, none⟩ = some a ∧ (u.alloc (.cells #[a, b] T)).cell? ⟨u.heap.size, 1, none⟩ = some b := ⟨by simp, by simp⟩
theorem drop_cons {l : List Sl} {j : Nat} (h : j < l.length) : l.drop j = l[j] :: l.drop (j + 1) := List.drop_eq_getElem_cons h
theorem step_mine {R at_ : Int} {l : List Sl} {j : Nat} (h : j < l.length) (hr : (l[j]).r = R) : gaps R at_ (l.drop j) = gaps R at_ (l.drop (j + 1)) := by rw [drop_cons h, gaps_mine hr]
theorem step_yes {R at_ : Int} {l : List Sl} {j : Nat} (h : j < l.length) (hr : (l[j]).r ≠ R) (k : at_ < (l[j]).f) : gaps R at_ (l.drop j) = (at_, (l[j]).f) :: gaps R (l[j]).t (l.drop (j + 1)) := by rw [drop_cons h, gaps_yes hr k]
theorem step_no {R at_ : Int} {l : List Sl} {j : Nat} (h : j < l.length) (hr : (l[j]).r ≠ R) (k : ¬ at_ < (l[j]).f) : gaps R at_ (l.drop j) = gaps R (l[j]).t (l.drop (j + 1)) := by rw [drop_cons h, gaps_no hr k]
set_option maxRecDepth 100000 in
set_option maxHeartbeats 4000000 in
theorem rgaps_in (F : Nat → Prop) (b : Nat) (ls : List (List Sl)) (i : Nat) (hi : i < ls.length) (R : Int) (w : World) (h : TAt F w b ls) (hm : (ls[i]).length ≤ 1000000) :
    Calls Try.prog 39 #[.pointer (some ⟨b, 0, none⟩), .int .i64 (i : Nat), .int .i64 R] w fun e w' => ∃ va vc, e = .returned (.slice va (gaps R 0 ls[i]).length vc) ∧ w'.ownsRow w.heap.size 92 2 (.slice va (gaps R 0 ls[i]).length vc) (gaps R 0 ls[i]).length (rowL prL (gaps R 0 ls[i])) ∧ Below w.heap.size w w' := by
  have cT := rthere_any F b ls (i : Nat) w h
  rw [show isThere ls.length ((i : Nat) : Int) = true by unfold isThere; simp; omega] at cT
  obtain ⟨v, vals, TI⟩ := h
  obtain ⟨g, cap, ev, hgb, hFg, hgl, hlc, hcm, hfz, hcell⟩ := TI.form (by omega)
  have hiv : i < vals.length := by rw [TI.len]; exact hi
  have hcg := hcell i hiv
  have RO := TI.each i hi hiv
  have hd := TI.head
  rw [ev] at hd
  have hb0 := TI.low b TI.hb
  obtain ⟨ra, rn, rc, er⟩ := RO.shape
  obtain ⟨l, hl⟩ : ∃ l, ls[i] = l := ⟨_, rfl⟩
  rw [hl] at RO hm ⊢
  rw [er] at hcg RO
  have hlen : rn = l.length := by obtain ⟨y1, y2, y3, _⟩ := RO.form; injection y3
  have HRO : Hid (RowAt slL (fun k => F k ∧ k ≠ b ∧ v.ownBlock ≠ some k) w (.slice ra rn rc) l) := RO
  have hi2 : (i : Int) < (ls.length : Int) := by omega
  have HB : Hid (b < w.heap.size ∧ g < w.heap.size) := ⟨hb0, hgl⟩
  have HD : Hid _ := hd
  have HCG : Hid _ := hcg
  clear hcell er RO hl TI hfz
  subst hlen
  go_enter Try.func39, Try.ntmps39
  go_wp2_with (go_at_call 55; refine cT.mono ?_; rintro e w1 ⟨rfl, hw1⟩; have hw1' := hw1.symm; subst hw1')
  clear hd hcg cT
  go_loopw [7, 8, 9] (fun s7 s8 s9 wr => ∃ (j : Nat) (ds : List (Int × Int)) (at_ : Int), s9 = .int .i64 j ∧ s8 = .int .i64 at_ ∧ j ≤ l.length ∧ ds.length ≤ j ∧ Hid (wr.ownsRow w.heap.size 92 2 s7 ds.length (rowL prL ds)) ∧ Hid (ds ++ gaps R at_ (l.drop j) = gaps R 0 l) ∧ Hid (Below w.heap.size w wr)) (fun _ _ s9 _ => l.length - (intOf s9).toNat)
  case atStart => exact ⟨0, [], 0, rfl, rfl, Nat.zero_le _, Nat.zero_le _, World.ownsRow_nil _ _ _ _, (by unfold Hid; simp), Below.refl _ _⟩
  case round =>
    obtain ⟨j, ds, at_, rfl, rfl, hj, hds, O, HE, bw⟩ := hrel
    obtain ⟨oa, oc, eo, _⟩ := own_form O.out
    have hd : wr.cell? ⟨b, 0, none⟩ = some (.slice (some ⟨g, 0, none⟩) ls.length cap) := (cell_same (bw.out.block b HB.out.1)).trans HD.out
    have hcg : wr.cell? ⟨g, i, none⟩ = some (.slice ra l.length rc) := (cell_same (bw.out.block g HB.out.2)).trans HCG.out
    rcases Nat.lt_or_ge j l.length with hjl | hjg
    · obtain ⟨g2, o2, cap2, e2, c0, c1, c2⟩ := box_item (HRO.out.go slL_len bw.out) j hjl
      cases e2
      have hjl' : (j : Int) < (l.length : Int) := by omega
      have hjs : (j : Int) + 1 ≤ 1000000000 := by omega
      have SM : Hid ((l[j]).r = R → gaps R at_ (l.drop j) = gaps R at_ (l.drop (j + 1))) := fun q => step_mine hjl q
      have SY : Hid ((l[j]).r ≠ R → at_ < (l[j]).f → gaps R at_ (l.drop j) = (at_, (l[j]).f) :: gaps R (l[j]).t (l.drop (j + 1))) := fun q k => step_yes hjl q k
      have SN : Hid ((l[j]).r ≠ R → ¬ at_ < (l[j]).f → gaps R at_ (l.drop j) = gaps R (l[j]).t (l.drop (j + 1))) := fun q k => step_no hjl q k
      obtain ⟨s, hs'⟩ : ∃ s, l[j] = s := ⟨_, rfl⟩
      rw [hs'] at c0 c1 c2 SM SY SN
      clear hs'
      obtain ⟨w5, hw5⟩ : ∃ w5, wr.alloc (.cells #[.int .i64 s.f, .int .i64 s.t, .int .i64 s.r] 40) = w5 := ⟨_, rfl⟩
      have b5 : Below wr.heap.size wr w5 := by rw [← hw5]; exact (Below.refl _ _).alloc (Nat.le_refl _) _
      have z0 : w5.cell? ⟨wr.heap.size, 0, none⟩ = some (.int .i64 s.f) := by rw [← hw5]; simp
      have z1 : w5.cell? ⟨wr.heap.size, 1, none⟩ = some (.int .i64 s.t) := by rw [← hw5]; simp
      have z2 : w5.cell? ⟨wr.heap.size, 2, none⟩ = some (.int .i64 s.r) := by rw [← hw5]; simp
      have lz : wr.heap.size < w5.heap.size := World.block_lt_of_cell? _ _ z0
      have B5 : Hid (Below w.heap.size w w5) := bcat bw.out b5
      have O5 : Hid (w5.ownsRow w.heap.size 92 2 (.slice oa ds.length oc) ds.length (rowL prL ds)) := by unfold Hid; rw [← eo]; exact owns_go O.out b5
      by_cases er : s.r = R
      · have er1 : (s.r == R) = true := by simp [er]
        have e1 := SM.out er
        have HE1 : Hid (ds ++ gaps R at_ (l.drop (j + 1)) = gaps R 0 l) := by unfold Hid; rw [← e1]; exact HE.out
        clear er e1
        subst eo
        go_wp2_with fail
        go_roundw
        case measure => simp only [intOf]; omega
        case rel => exact ⟨j + 1, ds, at_, rfl, rfl, hjl, by omega, O5, HE1, B5⟩
      · have er1 : (s.r == R) = false := by simp [er]
        by_cases kc : at_ < s.f
        · have kd : decide (s.f > at_) = true := decide_eq_true kc
          obtain ⟨w7, hw7⟩ : ∃ w7, w5.alloc (.cells #[.int .i64 at_, .int .i64 s.f] 92) = w7 := ⟨_, rfl⟩
          have b7 : Below w5.heap.size w5 w7 := by rw [← hw7]; exact (Below.refl _ _).alloc (Nat.le_refl _) _
          have nn := cell_new2 w5 (.int .i64 at_) (.int .i64 s.f) 92
          rw [hw7] at nn
          obtain ⟨n0, n1⟩ := nn
          have hrow := owns_go O5.out b7
          have HW7 : Hid (w5.alloc (.cells #[.int .i64 at_, .int .i64 s.f] 92) = w7) := hw7
          have B7 : Hid (Below w.heap.size w w7) := bcat B5.out b7
          have e1 := SY.out er kc
          have HE1 : Hid ((ds ++ [(at_, s.f)]) ++ gaps R s.t (l.drop (j + 1)) = gaps R 0 l) := by unfold Hid; rw [List.append_assoc, List.singleton_append, ← e1]; exact HE.out
          have z1' : Hid (w7.cell? ⟨wr.heap.size, 1, none⟩ = some (.int .i64 s.t)) := (cell_same (b7.block _ lz)).trans z1
          have lz7 : Hid (wr.heap.size < w7.heap.size) := Nat.lt_of_lt_of_le lz b7.size
          have nob : Hid ((Value.slice oa ds.length oc).ownBlock ≠ some wr.heap.size) := fun q => by have := (own_since O.out wr.heap.size (by rw [eo]; exact q)).2; omega
          clear hw7 er e1 kc
          subst eo
          go_wp2_with (first | (at_builtin; (try rw [HW7.out]); refine wpList_app kindG rfl (.tmp 45) (.tmp 50) rfl w.heap.size (.slice oa ds.length oc) ds rfl hrow _ [(at_, s.f)] rfl (lone_pr n0 n1) (by simp; omega) (by unfold maxLen; simp; omega) B7.out.size ?_; intro v2 w2 o2 g2 a2; have z9 : w2.cell? ⟨wr.heap.size, 1, none⟩ = some (.int .i64 s.t) := (cell_same (g2.block wr.heap.size lz7.out (fun q => nob.out q.symm))).trans z1'.out))
          go_roundw
          case measure => simp only [intOf]; omega
          case rel => exact ⟨j + 1, ds ++ [(at_, s.f)], s.t, rfl, rfl, hjl, by simp; omega, o2, HE1, B7.out.grown g2 B7.out.size (fun k hk => (own_since hrow k hk).1)⟩
        · have kd : decide (s.f > at_) = false := decide_eq_false kc
          have e1 := SN.out er kc
          have HE1 : Hid (ds ++ gaps R s.t (l.drop (j + 1)) = gaps R 0 l) := by unfold Hid; rw [← e1]; exact HE.out
          clear er e1 kc
          subst eo
          go_wp2_with fail
          go_roundw
          case measure => simp only [intOf]; omega
          case rel => exact ⟨j + 1, ds, s.t, rfl, rfl, hjl, by omega, O5, HE1, B5⟩
    · obtain rfl : j = l.length := by omega
      have HEe := HE.out
      rw [List.drop_length] at HEe
      simp only [gaps] at HEe
      by_cases kc : at_ < 4611686018427387904
      · have kd : decide (at_ < 4611686018427387904) = true := decide_eq_true kc
        rw [if_pos (show at_ < FV from kc)] at HEe
        have HEz : Hid (gaps R 0 l = ds ++ [(at_, 4611686018427387904)]) := HEe.symm
        obtain ⟨w7, hw7⟩ : ∃ w7, wr.alloc (.cells #[.int .i64 at_, .int .i64 4611686018427387904] 92) = w7 := ⟨_, rfl⟩
        have b7 : Below wr.heap.size wr w7 := by rw [← hw7]; exact (Below.refl _ _).alloc (Nat.le_refl _) _
        have nn := cell_new2 wr (.int .i64 at_) (.int .i64 4611686018427387904) 92
        rw [hw7] at nn
        have hrow := owns_go O.out b7
        rw [eo] at hrow
        have HW7 : Hid (wr.alloc (.cells #[.int .i64 at_, .int .i64 4611686018427387904] 92) = w7) := hw7
        have B7 : Hid (Below w.heap.size w w7) := bcat bw.out b7
        clear hw7 HEe kc
        subst eo
        go_wp2_with (first | (at_builtin; (try rw [HW7.out]); refine wpList_app kindG rfl (.tmp 56) (.tmp 59) rfl w.heap.size (.slice oa ds.length oc) ds rfl hrow _ [(at_, 4611686018427387904)] rfl (lone_pr nn.1 nn.2) (by simp; omega) (by unfold maxLen; simp; omega) B7.out.size ?_; intro v2 w2 o2 g2 a2; obtain ⟨va, vc, ev2, _⟩ := own_form o2; subst ev2))
        go_ret
        have hl9 : (ds ++ [(at_, (4611686018427387904 : Int))]).length = ds.length + 1 := by simp
        rw [hl9] at o2
        rw [HEz.out, hl9]
        exact ⟨va, vc, rfl, o2, B7.out.grown g2 B7.out.size (fun k hk => (own_since hrow k hk).1)⟩
      · have kd : decide (at_ < 4611686018427387904) = false := decide_eq_false kc
        rw [if_neg (show ¬ at_ < FV from kc), List.append_nil] at HEe
        have HEz : Hid (gaps R 0 l = ds) := HEe.symm
        have HO : Hid _ := O.out
        clear HEe kc
        subst eo
        go_wp2
        go_ret
        rw [HEz.out]
        exact ⟨oa, oc, rfl, O.out, bw.out⟩
set_option maxRecDepth 100000 in
set_option maxHeartbeats 1000000 in
theorem rgaps_out (F : Nat → Prop) (b : Nat) (ls : List (List Sl)) (c R : Int) (w : World) (h : TAt F w b ls) (ht : isThere ls.length c = false) :
    Calls Try.prog 39 #[.pointer (some ⟨b, 0, none⟩), .int .i64 c, .int .i64 R] w fun e w' => e = .returned (.slice none 0 0) ∧ Below w.heap.size w w' := by
  have cT := rthere_any F b ls c w h
  rw [ht] at cT
  go_enter Try.func39, Try.ntmps39
  go_wp2_with (go_at_call 55; refine cT.mono ?_; rintro e w1 ⟨rfl, rfl⟩)
  go_ret
  exact ⟨rfl, Below.refl _ _⟩
theorem rgaps_any (F : Nat → Prop) (b : Nat) (ls : List (List Sl)) (c R : Int) (w : World) (h : TAt F w b ls) (hm : (rowOf ls c).length ≤ 1000000) :
    Calls Try.prog 39 #[.pointer (some ⟨b, 0, none⟩), .int .i64 c, .int .i64 R] w fun e w' => ∃ va n vc, e = .returned (.slice va n vc) ∧ RowAt prL (fun k => w.heap.size ≤ k) w' (.slice va n vc) (gapsOf (isThere ls.length c) R (rowOf ls c)) ∧ Below w.heap.size w w' := by
  cases ht : isThere ls.length c with
  | true =>
    obtain ⟨i, hi, rfl, e⟩ := rowOf_in ht
    rw [e] at hm ⊢
    refine (rgaps_in F b ls i hi R w h hm).mono fun e w' ⟨va, vc, he, o, hb⟩ => ⟨va, _, vc, he, ?_, hb⟩
    unfold gapsOf
    rw [if_pos rfl]
    exact pr_of_own o
  | false =>
    refine (rgaps_out F b ls c R w h ht).mono fun e w' ⟨he, hb⟩ => ⟨none, 0, 0, he, ?_, hb⟩
    unfold gapsOf
    rw [if_neg (by simp)]
    exact RowAt.nil _ _ _
theorem cell_drew2 (w : World) (a b : Value) (T : TypeId) : (w.drew.alloc (.cells #[a, b] T)).cell? ⟨w.heap.size, 0, none⟩ = some a ∧ (w.drew.alloc (.cells #[a, b] T)).cell? ⟨w.heap.size, 1, none⟩ = some b := ⟨(cell_new2 w.drew a b T).1, (cell_new2 w.drew a b T).2⟩
set_option maxRecDepth 100000 in
set_option maxHeartbeats 4000000 in
theorem pairs_any (F : Nat → Prop) (a : Option Addr) (n cap : Nat) (ws : List (Int × Int)) (w : World) (hin : RowAt prL F w (.slice a n cap) ws) (hn : n ≤ 1000000) : Calls Try.prog 38 #[.slice a n cap] w fun e w' => ∃ va vc, e = .returned (.slice va n vc) ∧ w'.ownsRow w.heap.size 54 2 (.slice va n vc) n (rowL prL ws) ∧ Below w.heap.size w w' := by
  have HIN : Hid (RowAt prL F w (.slice a n cap) ws) := hin
  have hwn : ws.length = n := by obtain ⟨y1, y2, y3, _⟩ := hin.form; injection y3 with _ q _; exact q.symm
  subst hwn
  clear hin
  go_enter Try.func38, Try.ntmps38
  go_wp2_with fail
  go_loopw [3, 4] (fun s3 s4 wr => ∃ i : Nat, s4 = .int .i64 i ∧ i ≤ ws.length ∧ Hid (wr.ownsRow w.heap.size 54 2 s3 i (rowL prL (ws.take i))) ∧ Hid (Below w.heap.size w wr)) (fun _ s4 _ => ws.length - (intOf s4).toNat)
  case atStart => exact ⟨0, rfl, Nat.zero_le _, World.ownsRow_nil _ _ _ _, Below.refl _ _⟩
  case round =>
    obtain ⟨i, rfl, hi, O, bw⟩ := hrel
    obtain ⟨oa, oc, eo, _⟩ := own_form O.out
    rcases Nat.lt_or_ge i ws.length with hlt | hge
    · obtain ⟨g, o, cp, ea, c0, c1⟩ := box_pr HIN.out i hlt
      cases ea
      have hlt' : (i : Int) < (ws.length : Int) := by omega
      have his : (i : Int) + 1 ≤ 1000000000 := by omega
      have hTk : Hid (ws.take (i + 1) = ws.take i ++ [ws[i]]) := List.take_succ_eq_append_getElem hlt
      have hln : (ws.take i).length = i := by rw [List.length_take]; omega
      obtain ⟨x, hx⟩ : ∃ x, ws[i] = x := ⟨_, rfl⟩
      rw [hx] at c0 c1 hTk
      clear hx
      obtain ⟨w4, hw4⟩ : ∃ w4, wr.drew.alloc (.cells #[.int .i64 x.1, .int .i64 x.2] 54) = w4 := ⟨_, rfl⟩
      have b4 : Below wr.heap.size wr w4 := by rw [← hw4]; exact Below.alloc (a := wr) (w := wr.drew) ⟨rfl, rfl, rfl, Nat.le_refl _, fun _ _ => rfl⟩ (Nat.le_refl _) _
      have n4 := cell_drew2 wr (.int .i64 x.1) (.int .i64 x.2) 54
      rw [hw4] at n4
      have O4 : w4.ownsRow w.heap.size 54 2 (.slice oa i oc) (ws.take i).length (rowL prL (ws.take i)) := by rw [hln, ← eo]; exact owns_go O.out b4
      have hrun := run_app kindPr O4 (lone_pr (x := x) n4.1 n4.2) (by simp only [List.length_singleton]; omega) (by unfold maxLen; simp only [List.length_singleton]; omega) (Nat.le_trans bw.out.size b4.size)
      obtain ⟨v5, w5, hrun5, o5, g5, a5⟩ := hrun 49
      have B5 : Hid (Below w.heap.size w w5) := (bcat bw.out b4).grown g5 (Nat.le_trans bw.out.size b4.size) (fun k hk => (own_since O4 k hk).1)
      have hl5 : (ws.take i ++ [x]).length = i + 1 := by rw [List.length_append, hln]; rfl
      rw [hl5] at o5
      obtain ⟨va5, vc5, ev5, _⟩ := own_form o5
      have B4 : Below w.heap.size w w4 := bcat bw.out b4
      have Bd : Below w.heap.size w wr.drew := bw.out.drew
      have lg : g < w.heap.size := World.block_lt_of_cell? _ _ c0
      have O5 : Hid (w5.ownsRow w.heap.size 54 2 v5 (i + 1) (rowL prL (ws.take (i + 1)))) := by unfold Hid; rw [hTk.out]; exact o5
      obtain ⟨SH, hSH⟩ : ∃ S : World → Prop, S = Below w.heap.size w := ⟨_, rfl⟩
      have hS : SH wr.drew := by rw [hSH]; exact Bd
      have hS4 : SH w4 := by rw [hSH]; exact B4
      have hS5 : SH w5 := by rw [hSH]; exact B5.out
      have k0 : ∀ u, SH u → u.cell? ⟨g, o + i * 2, none⟩ = some (.int .i64 x.1) := fun u hu => by rw [hSH] at hu; exact (cell_same (hu.block g lg)).trans c0
      have k1 : ∀ u, SH u → u.cell? ⟨g, o + i * 2 + 1, none⟩ = some (.int .i64 x.2) := fun u hu => by rw [hSH] at hu; exact (cell_same (hu.block g lg)).trans c1
      rw [ev5] at hrun5 O5
      subst eo
      clear c0 c1 B4 Bd o5 g5 a5 ev5 hrun hl5 hln O4
      go_wp2_with fail
      refine start_held (S := SH) 15 rfl (by kernel_rfl) (hS) ?_
      simp only [Array.replicate_succ, Array.replicate_zero, List.push_toArray, List.nil_append, List.cons_append]
      refine take_held 0 (by assumption) rfl (by kernel_rfl) (by kernel_rfl) (by kernel_rfl) (fun _ _ _ h => h) (by kernel_rfl) (v := ?v0) ?y0 ?r0
      case y0 => (intro u hu; go_simp; try rfl)
      simp only [Act.put, List.setIfInBounds_toArray, List.set_cons_zero, List.set_cons_succ]
      refine take_held 1 (by assumption) rfl (by kernel_rfl) (by kernel_rfl) (by kernel_rfl) (fun _ _ _ h => h) (by kernel_rfl) (v := ?v1) ?y1 ?r1
      case y1 => (intro u hu; go_simp; try rfl)
      simp only [Act.put, List.setIfInBounds_toArray, List.set_cons_zero, List.set_cons_succ]
      refine take_held 2 (by assumption) rfl (by kernel_rfl) (by kernel_rfl) (by kernel_rfl) (fun _ _ _ h => h) (by kernel_rfl) (v := ?v2) ?y2 ?r2
      case y2 => (intro u hu; go_simp; try rfl)
      simp only [Act.put, List.setIfInBounds_toArray, List.set_cons_zero, List.set_cons_succ]
      refine take_held 3 (by assumption) rfl (by kernel_rfl) (by kernel_rfl) (by kernel_rfl) (fun _ _ _ h => h) (by kernel_rfl) (v := ?v3) ?y3 ?r3
      case y3 => (intro u hu; go_simp; try rfl)
      simp only [Act.put, List.setIfInBounds_toArray, List.set_cons_zero, List.set_cons_succ]
      refine take_held 4 (by assumption) rfl (by kernel_rfl) (by kernel_rfl) (by kernel_rfl) (fun _ _ _ h => h) (by kernel_rfl) (v := ?v4) ?y4 ?r4
      case y4 => (intro u hu; go_simp; try rfl)
      simp only [Act.put, List.setIfInBounds_toArray, List.set_cons_zero, List.set_cons_succ]
      refine take_held 5 (by assumption) rfl (by kernel_rfl) (by kernel_rfl) (by kernel_rfl) (fun _ _ _ h => h) (by kernel_rfl) (v := ?v5) ?y5 ?r5
      case y5 => (intro u hu; have zz0 := k0 u hu; go_simp; try rfl)
      simp only [Act.put, List.setIfInBounds_toArray, List.set_cons_zero, List.set_cons_succ]
      refine take_held 6 (by assumption) rfl (by kernel_rfl) (by kernel_rfl) (by kernel_rfl) (fun _ _ _ h => h) (by kernel_rfl) (v := ?v6) ?y6 ?r6
      case y6 => (intro u hu; go_simp; try rfl)
      simp only [Act.put, List.setIfInBounds_toArray, List.set_cons_zero, List.set_cons_succ]
      refine take_held 7 (by assumption) rfl (by kernel_rfl) (by kernel_rfl) (by kernel_rfl) (fun _ _ _ h => h) (by kernel_rfl) (v := ?v7) ?y7 ?r7
      case y7 => (intro u hu; go_simp; try rfl)
      simp only [Act.put, List.setIfInBounds_toArray, List.set_cons_zero, List.set_cons_succ]
      refine take_held 8 (by assumption) rfl (by kernel_rfl) (by kernel_rfl) (by kernel_rfl) (fun _ _ _ h => h) (by kernel_rfl) (v := ?v8) ?y8 ?r8
      case y8 => (intro u hu; go_simp; try rfl)
      simp only [Act.put, List.setIfInBounds_toArray, List.set_cons_zero, List.set_cons_succ]
      refine take_held 9 (by assumption) rfl (by kernel_rfl) (by kernel_rfl) (by kernel_rfl) (fun _ _ _ h => h) (by kernel_rfl) (v := ?v9) ?y9 ?r9
      case y9 => (intro u hu; go_simp; try rfl)
      simp only [Act.put, List.setIfInBounds_toArray, List.set_cons_zero, List.set_cons_succ]
      refine take_held 10 (by assumption) rfl (by kernel_rfl) (by kernel_rfl) (by kernel_rfl) (fun _ _ _ h => h) (by kernel_rfl) (v := ?v10) ?y10 ?r10
      case y10 => (intro u hu; have zz0 := k1 u hu; go_simp; try rfl)
      simp only [Act.put, List.setIfInBounds_toArray, List.set_cons_zero, List.set_cons_succ]
      refine take_held 11 (by assumption) rfl (by kernel_rfl) (by kernel_rfl) (by kernel_rfl) (fun _ _ _ h => h) (by kernel_rfl) (v := ?v11) ?y11 ?r11
      case y11 => (intro u hu; go_simp; try rfl)
      simp only [Act.put, List.setIfInBounds_toArray, List.set_cons_zero, List.set_cons_succ]
      refine wpAnyH_ready (rs := [12]) (by kernel_rfl) (by simp) (AllReadyH.cons ((nth_eq _ 12).trans rfl) ?_ AllReadyH.nil)
      intro K' hK
      refine value_in hK (by kernel_rfl) (.slice (some ⟨wr.heap.size, 0, none⟩) 1 1) (w4) (by rw [← hw4]; go_simp; try rfl) (hS4) ?_
      simp only [Act.put, List.setIfInBounds_toArray, List.set_cons_zero, List.set_cons_succ]
      refine wpAnyH_ready (rs := [13]) (by kernel_rfl) (by simp) (AllReadyH.cons ((nth_eq _ 13).trans rfl) ?_ AllReadyH.nil)
      intro K' hK
      refine value_in hK (by kernel_rfl) (.slice va5 (i + 1) vc5) (w5) (run_app_op _ _ rfl _ _ _ rfl rfl hrun5) (hS5) ?_
      simp only [Act.put, List.setIfInBounds_toArray, List.set_cons_zero, List.set_cons_succ]
      refine take_held 14 (by assumption) rfl (by kernel_rfl) (by kernel_rfl) (by kernel_rfl) (fun _ _ _ h => h) (by kernel_rfl) (v := ?v12) ?y12 ?r12
      case y12 => (intro u hu; go_simp; try rfl)
      simp only [Act.put, List.setIfInBounds_toArray, List.set_cons_zero, List.set_cons_succ]
      refine done_held (by kernel_rfl) ?_ _
      go_wp2_with fail
      go_roundw
      case measure => simp only [intOf]; omega
      case rel => exact ⟨i + 1, rfl, hlt, O5, B5⟩
    · obtain rfl : i = ws.length := by omega
      have O9 := O.out
      rw [List.take_length] at O9
      subst eo
      have HO : Hid _ := O9
      clear O9
      go_wp2
      go_ret
      exact ⟨_, _, rfl, HO.out, bw.out⟩
end Go.Proofs.Ytddkgkafgjdheaa.Rs
