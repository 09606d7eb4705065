/-
  The chapter's own Claim.
-/
import Derived.Test.YtddkgkafgjdheaaResvRef
namespace Go.Proofs.Ytddkgkafgjdheaa.Rs
set_option linter.unusedVariables false
set_option linter.unusedSimpArgs false
open Go Go.RowKit Go.Shelf Go.Proofs Hp
attribute [local go_sem] Oper.semAt_some

theorem rthere_call {F : Nat → Prop} {b : Nat} {ls : List (List Sl)} {c : Int} {w : World} (h : TAt F w b ls) {r : Bool} (hr : isThere ls.length c = r) : Calls Try.prog 55 #[.pointer (some ⟨b, 0, none⟩), .int .i64 c] w fun e w' => ∃ v, e = .returned v ∧ v = .bool r ∧ w' = w :=
  (rthere_any F b ls c w h).mono fun e w' ⟨he, hw⟩ => ⟨_, he, by rw [hr], hw⟩
theorem met_call {F : Nat → Prop} {b : Nat} {ls : List (List Sl)} {R : Int} {i : Nat} (hi : i < ls.length) {f t : Int} {w : World} (h : TAt F w b ls) (hm : (ls[i]).length ≤ 1000000000) {r : Bool} (hr : metB ls[i] R f t = r) : Calls Try.prog 57 #[.pointer (some ⟨b, 0, none⟩), .int .i64 R, .int .i64 (i : Nat), .int .i64 f, .int .i64 t] w fun e w' => ∃ v, e = .returned v ∧ v = .bool r ∧ w' = w :=
  (met_any F b ls R i hi f t w h hm).mono fun e w' ⟨he, hw⟩ => ⟨_, he, by rw [hr], hw⟩
theorem put_call {F : Nat → Prop} {b : Nat} {ls : List (List Sl)} {R : Int} {i : Nat} (hi : i < ls.length) {f t : Int} {w : World} (h : TAt F w b ls) (hok : Ok ls[i]) (hfx : Fit ⟨f, t, R⟩) (hmt : ¬ Met ls[i] R [⟨f, t, R⟩]) (hm : (ls[i]).length ≤ 999999999) : Calls Try.prog 58 #[.pointer (some ⟨b, 0, none⟩), .int .i64 R, .int .i64 (i : Nat), .int .i64 f, .int .i64 t] w fun e w' => ∃ v, e = .returned v ∧ v = .tuple #[] ∧ ∃ F' l', TAt F' w' b (ls.set i l') ∧ Tn F F' w w' ∧ With ls[i] [⟨f, t, R⟩] l' :=
  (put_any F b ls R i hi f t w h hok hfx hmt hm).mono fun e w' ⟨he, F', l', hh⟩ => ⟨_, he, rfl, F', l', hh⟩
theorem With.more {l m1 l1 l2 : List Sl} {x : Sl} (h : With l m1 l1) (k : With l1 [x] l2) : With l (m1 ++ [x]) l2 :=
  ⟨k.ok, fun t r => by rw [k.has, h.has, has_append, or_assoc], by have := h.len; have := k.len; rw [List.length_append]; omega⟩
theorem met_back {l more l1 : List Sl} {R : Int} {x : Sl} (hw : With l more l1) (hr : ∀ s ∈ more, s.r = R) (hx : x.f < x.t) (hm : Met l1 R [x]) : Met l R [x] := by
  obtain ⟨s, hs, m, hm, h1, h2, h3⟩ := hm
  rw [List.mem_singleton] at hm
  subst hm
  have hf := (hw.ok.fit s hs).2.1
  have ht : Has l1 (max s.f m.f) s.r := ⟨s, hs, rfl, by omega, by omega⟩
  rcases (hw.has _ _).1 ht with ⟨s', hs', e, a, b⟩ | ⟨s', hs', e, _⟩
  · exact ⟨s', hs', m, List.mem_singleton.2 rfl, by rw [e]; exact h1, by omega, by omega⟩
  · exact absurd (e.symm.trans (hr s' hs')) h1
theorem metT_of {R : Int} {ws : List Wn} {ls : List (List Sl)} {x : Wn} (hx : x ∈ ws) {i : Nat} (hi : i < ls.length) (hc : x.c = (i : Nat)) (hm : Met ls[i] R [⟨x.f, x.t, R⟩]) : MetT R ws ls := by
  obtain ⟨s, hs, m, hm, h⟩ := hm
  rw [List.mem_singleton] at hm
  subst hm
  have q := in_moreOf (R := R) hx
  rw [hc] at q
  exact ⟨i, hi, s, hs, _, q, h⟩
theorem metT_one {R : Int} {ws : List Wn} {ls : List (List Sl)} (h : MetT R ws ls) : ∃ x ∈ ws, ∃ i, ∃ hi : i < ls.length, x.c = (i : Nat) ∧ Met ls[i] R [⟨x.f, x.t, R⟩] := by
  obtain ⟨i, hi, s, hs, m, hm, h⟩ := h
  obtain ⟨x, hx, hc, rfl⟩ := moreOf_in hm
  exact ⟨x, hx, i, hi, hc, s, hs, _, List.mem_singleton.2 rfl, h⟩
set_option maxRecDepth 100000 in
set_option maxHeartbeats 4000000 in
theorem rclaim_any (F G : Nat → Prop) (b : Nat) (ls : List (List Sl)) (R : Int) (lv : Value) (ws : List Wn) (m : Nat) (w : World) (h : TAt F w b ls) (hl : OkT ls) (hs : Small m ls) (hn : 0 < ls.length) (RW : RowAt wnL G w lv ws) (hG : ∀ k, G k → ¬ F k) (hb : m + ws.length ≤ 900000000) :
    Calls Try.prog 34 #[.pointer (some ⟨b, 0, none⟩), .int .i64 R, lv] w (ClaimPost F b R ws ls w) := by
  obtain ⟨a, cap, elv, _⟩ := RW.form
  have HT : Hid (TAt F w b ls) := h
  have HR : Hid (RowAt wnL G w lv ws) := RW
  have hbl := h.at.2
  subst elv
  clear h RW
  by_cases hneg : R < 0
  · go_enter Try.func34, Try.ntmps34
    go_wp2
    go_ret
    have hA : badArg R ws ls.length = true := by simp [badArg, hneg]
    exact ⟨1, ls, F, rfl, HT.out, Tn.below (Below.refl _ _), fun _ => ⟨rfl, rfl⟩, fun q => (by rw [hA] at q; cases q), fun q => (by rw [hA] at q; cases q)⟩
  have HNg : Hid (¬ R < 0) := hneg
  have dneg : decide (R < 0) = false := decide_eq_false hneg
  clear hneg
  go_enter Try.func34, Try.ntmps34
  go_wp2_with fail
  go_loopw [7] (fun s7 wr => ∃ j : Nat, s7 = .int .i64 j ∧ j ≤ ws.length ∧ Hid ((ws.take j).any (badW ls.length) = false) ∧ Hid (Below w.heap.size w wr)) (fun s7 _ => ws.length - (intOf s7).toNat)
  case atStart => exact ⟨0, rfl, Nat.zero_le _, by unfold Hid; simp, Below.refl _ _⟩
  case round =>
    obtain ⟨j, rfl, hj, hA, bw⟩ := hrel
    rcases Nat.lt_or_ge j ws.length with hjl | hjg
    · obtain ⟨g, o, cap2, e2, _, _, _, C⟩ := (HR.out.go wnL_len bw.out).has (by omega)
      cases e2
      have c0 := C.at wnL_len j hjl 0 _ rfl
      have c1 := C.at wnL_len j hjl 1 _ rfl
      have c2 := C.at wnL_len j hjl 2 _ rfl
      rw [Nat.add_zero] at c0
      have hjl' : (j : Int) < (ws.length : Int) := by omega
      have hjs : (j : Int) + 1 ≤ 1000000000 := by omega
      have hS0 : Hid ((ws.take (j + 1)).any (badW ls.length) = badW ls.length ws[j]) := any_take_succ _ ws j hjl hA.out
      have hE : Hid (badW ls.length ws[j] = true → ws.any (badW ls.length) = true) := fun q => List.any_eq_true.2 ⟨ws[j], List.getElem_mem _, q⟩
      have lg : g < wr.heap.size := C.lt wnL_len (by omega)
      obtain ⟨x, hx⟩ : ∃ x, ws[j] = x := ⟨_, rfl⟩
      rw [hx] at c0 c1 c2 hS0 hE
      clear hx C
      have Twr := HT.out.go bw.out
      obtain ⟨IH, hIH⟩ : ∃ I : World → Prop, I = Below wr.heap.size wr := ⟨_, rfl⟩
      have hS : IH wr.drew := by rw [hIH]; exact (Below.refl _ _).drew
      have k0 : ∀ u, IH u → u.cell? ⟨g, o + j * 3, none⟩ = some (.int .i64 x.c) := fun u hu => by rw [hIH] at hu; exact (cell_same (hu.block g lg)).trans c0
      have k1 : ∀ u, IH u → u.cell? ⟨g, o + j * 3 + 1, none⟩ = some (.int .i64 x.f) := fun u hu => by rw [hIH] at hu; exact (cell_same (hu.block g lg)).trans c1
      have k2 : ∀ u, IH u → u.cell? ⟨g, o + j * 3 + 2, none⟩ = some (.int .i64 x.t) := fun u hu => by rw [hIH] at hu; exact (cell_same (hu.block g lg)).trans c2
      have Td : TAt F wr.drew b ls := Twr.go (Below.refl _ _).drew
      have hBad : Hid (badW ls.length x = true → ∀ w', Below w.heap.size w w' → ClaimPost F b R ws ls w (.returned (.int .i64 1)) w') := fun q w' hb' => by
        have hA' : badArg R ws ls.length = true := by unfold badArg; rw [hE.out q]; simp
        exact ⟨1, ls, F, rfl, HT.out.go hb', Tn.below hb', fun _ => ⟨rfl, rfl⟩, fun q => (by rw [hA'] at q; cases q), fun q => (by rw [hA'] at q; cases q)⟩
      clear c0 c1 c2
      cases ht : isThere ls.length x.c with
      | false =>
        have hbx : Hid (badW ls.length x = true) := by unfold Hid badW; rw [ht]; rfl
        have cT := rthere_call Td ht
        clear ht
        go_wp2_with fail
        refine start_held (S := IH) 37 rfl (by kernel_rfl) (hS) ?_
        simp only [Array.replicate_succ, Array.replicate_zero, List.push_toArray, List.nil_append, List.cons_append]
        refine take_held 0 (by assumption) rfl (by kernel_rfl) (by kernel_rfl) (by kernel_rfl) (fun _ _ _ h => h) (by kernel_rfl) (v := ?v51) ?y51 ?r51
        case y51 => (intro u hu; go_simp; try rfl)
        simp only [Act.put, List.setIfInBounds_toArray, List.set_cons_zero, List.set_cons_succ]
        refine take_held 1 (by assumption) rfl (by kernel_rfl) (by kernel_rfl) (by kernel_rfl) (fun _ _ _ h => h) (by kernel_rfl) (v := ?v52) ?y52 ?r52
        case y52 => (intro u hu; go_simp; try rfl)
        simp only [Act.put, List.setIfInBounds_toArray, List.set_cons_zero, List.set_cons_succ]
        refine take_held 2 (by assumption) rfl (by kernel_rfl) (by kernel_rfl) (by kernel_rfl) (fun _ _ _ h => h) (by kernel_rfl) (v := ?v53) ?y53 ?r53
        case y53 => (intro u hu; go_simp; try rfl)
        simp only [Act.put, List.setIfInBounds_toArray, List.set_cons_zero, List.set_cons_succ]
        refine take_held 3 (by assumption) rfl (by kernel_rfl) (by kernel_rfl) (by kernel_rfl) (fun _ _ _ h => h) (by kernel_rfl) (v := ?v54) ?y54 ?r54
        case y54 => (intro u hu; go_simp; try rfl)
        simp only [Act.put, List.setIfInBounds_toArray, List.set_cons_zero, List.set_cons_succ]
        refine take_held 4 (by assumption) rfl (by kernel_rfl) (by kernel_rfl) (by kernel_rfl) (fun _ _ _ h => h) (by kernel_rfl) (v := ?v55) ?y55 ?r55
        case y55 => (intro u hu; go_simp; try rfl)
        simp only [Act.put, List.setIfInBounds_toArray, List.set_cons_zero, List.set_cons_succ]
        refine take_held 5 (by assumption) rfl (by kernel_rfl) (by kernel_rfl) (by kernel_rfl) (fun _ _ _ h => h) (by kernel_rfl) (v := ?v56) ?y56 ?r56
        case y56 => (intro u hu; have zz0 := k0 u hu; go_simp; try rfl)
        simp only [Act.put, List.setIfInBounds_toArray, List.set_cons_zero, List.set_cons_succ]
        refine wpAnyH_ready (rs := [6]) (by kernel_rfl) (by simp) (AllReadyH.cons ((nth_eq _ 6).trans rfl) ?_ AllReadyH.nil)
        intro K' hK
        refine call_in hK (by kernel_rfl) 55 #[.pointer (some ⟨b, 0, none⟩), .int .i64 x.c] (by go_simp) _ (cT) ?_
        rintro v w6 ⟨rfl, rfl⟩
        refine ⟨hS, ?_⟩
        simp only [Act.put, List.setIfInBounds_toArray, List.set_cons_zero, List.set_cons_succ]
        refine take_held 7 (by assumption) rfl (by kernel_rfl) (by kernel_rfl) (by kernel_rfl) (fun _ _ _ h => h) (by kernel_rfl) (v := .bool true) ?y57 ?r57
        case y57 => (intro u hu; go_simp; try rfl)
        simp only [Act.put, List.setIfInBounds_toArray, List.set_cons_zero, List.set_cons_succ]
        refine take_held 8 (by assumption) rfl (by kernel_rfl) (by kernel_rfl) (by kernel_rfl) (fun _ _ _ h => h) (by kernel_rfl) (v := ?v58) ?y58 ?r58
        case y58 => (intro u hu; go_simp; try rfl)
        simp only [Act.put, List.setIfInBounds_toArray, List.set_cons_zero, List.set_cons_succ]
        refine skip_held 9 (by assumption) rfl (by kernel_rfl) (by kernel_rfl) (by kernel_rfl) (fun _ _ _ h => h) (by kernel_rfl) ?_
        simp only [Act.put, List.setIfInBounds_toArray, List.set_cons_zero, List.set_cons_succ]
        refine skip_held 10 (by assumption) rfl (by kernel_rfl) (by kernel_rfl) (by kernel_rfl) (fun _ _ _ h => h) (by kernel_rfl) ?_
        simp only [Act.put, List.setIfInBounds_toArray, List.set_cons_zero, List.set_cons_succ]
        refine skip_held 11 (by assumption) rfl (by kernel_rfl) (by kernel_rfl) (by kernel_rfl) (fun _ _ _ h => h) (by kernel_rfl) ?_
        simp only [Act.put, List.setIfInBounds_toArray, List.set_cons_zero, List.set_cons_succ]
        refine skip_held 12 (by assumption) rfl (by kernel_rfl) (by kernel_rfl) (by kernel_rfl) (fun _ _ _ h => h) (by kernel_rfl) ?_
        simp only [Act.put, List.setIfInBounds_toArray, List.set_cons_zero, List.set_cons_succ]
        refine skip_held 13 (by assumption) rfl (by kernel_rfl) (by kernel_rfl) (by kernel_rfl) (fun _ _ _ h => h) (by kernel_rfl) ?_
        simp only [Act.put, List.setIfInBounds_toArray, List.set_cons_zero, List.set_cons_succ]
        refine skip_held 14 (by assumption) rfl (by kernel_rfl) (by kernel_rfl) (by kernel_rfl) (fun _ _ _ h => h) (by kernel_rfl) ?_
        simp only [Act.put, List.setIfInBounds_toArray, List.set_cons_zero, List.set_cons_succ]
        refine take_held 15 (by assumption) rfl (by kernel_rfl) (by kernel_rfl) (by kernel_rfl) (fun _ _ _ h => h) (by kernel_rfl) (v := .bool true) ?y59 ?r59
        case y59 => (intro u hu; go_simp; try rfl)
        simp only [Act.put, List.setIfInBounds_toArray, List.set_cons_zero, List.set_cons_succ]
        refine take_held 16 (by assumption) rfl (by kernel_rfl) (by kernel_rfl) (by kernel_rfl) (fun _ _ _ h => h) (by kernel_rfl) (v := ?v60) ?y60 ?r60
        case y60 => (intro u hu; go_simp; try rfl)
        simp only [Act.put, List.setIfInBounds_toArray, List.set_cons_zero, List.set_cons_succ]
        refine skip_held 17 (by assumption) rfl (by kernel_rfl) (by kernel_rfl) (by kernel_rfl) (fun _ _ _ h => h) (by kernel_rfl) ?_
        simp only [Act.put, List.setIfInBounds_toArray, List.set_cons_zero, List.set_cons_succ]
        refine skip_held 18 (by assumption) rfl (by kernel_rfl) (by kernel_rfl) (by kernel_rfl) (fun _ _ _ h => h) (by kernel_rfl) ?_
        simp only [Act.put, List.setIfInBounds_toArray, List.set_cons_zero, List.set_cons_succ]
        refine skip_held 19 (by assumption) rfl (by kernel_rfl) (by kernel_rfl) (by kernel_rfl) (fun _ _ _ h => h) (by kernel_rfl) ?_
        simp only [Act.put, List.setIfInBounds_toArray, List.set_cons_zero, List.set_cons_succ]
        refine skip_held 20 (by assumption) rfl (by kernel_rfl) (by kernel_rfl) (by kernel_rfl) (fun _ _ _ h => h) (by kernel_rfl) ?_
        simp only [Act.put, List.setIfInBounds_toArray, List.set_cons_zero, List.set_cons_succ]
        refine skip_held 21 (by assumption) rfl (by kernel_rfl) (by kernel_rfl) (by kernel_rfl) (fun _ _ _ h => h) (by kernel_rfl) ?_
        simp only [Act.put, List.setIfInBounds_toArray, List.set_cons_zero, List.set_cons_succ]
        refine skip_held 22 (by assumption) rfl (by kernel_rfl) (by kernel_rfl) (by kernel_rfl) (fun _ _ _ h => h) (by kernel_rfl) ?_
        simp only [Act.put, List.setIfInBounds_toArray, List.set_cons_zero, List.set_cons_succ]
        refine skip_held 23 (by assumption) rfl (by kernel_rfl) (by kernel_rfl) (by kernel_rfl) (fun _ _ _ h => h) (by kernel_rfl) ?_
        simp only [Act.put, List.setIfInBounds_toArray, List.set_cons_zero, List.set_cons_succ]
        refine skip_held 24 (by assumption) rfl (by kernel_rfl) (by kernel_rfl) (by kernel_rfl) (fun _ _ _ h => h) (by kernel_rfl) ?_
        simp only [Act.put, List.setIfInBounds_toArray, List.set_cons_zero, List.set_cons_succ]
        refine skip_held 25 (by assumption) rfl (by kernel_rfl) (by kernel_rfl) (by kernel_rfl) (fun _ _ _ h => h) (by kernel_rfl) ?_
        simp only [Act.put, List.setIfInBounds_toArray, List.set_cons_zero, List.set_cons_succ]
        refine skip_held 26 (by assumption) rfl (by kernel_rfl) (by kernel_rfl) (by kernel_rfl) (fun _ _ _ h => h) (by kernel_rfl) ?_
        simp only [Act.put, List.setIfInBounds_toArray, List.set_cons_zero, List.set_cons_succ]
        refine skip_held 27 (by assumption) rfl (by kernel_rfl) (by kernel_rfl) (by kernel_rfl) (fun _ _ _ h => h) (by kernel_rfl) ?_
        simp only [Act.put, List.setIfInBounds_toArray, List.set_cons_zero, List.set_cons_succ]
        refine take_held 28 (by assumption) rfl (by kernel_rfl) (by kernel_rfl) (by kernel_rfl) (fun _ _ _ h => h) (by kernel_rfl) (v := .bool true) ?y61 ?r61
        case y61 => (intro u hu; go_simp; try rfl)
        simp only [Act.put, List.setIfInBounds_toArray, List.set_cons_zero, List.set_cons_succ]
        refine take_held 29 (by assumption) rfl (by kernel_rfl) (by kernel_rfl) (by kernel_rfl) (fun _ _ _ h => h) (by kernel_rfl) (v := ?v62) ?y62 ?r62
        case y62 => (intro u hu; go_simp; try rfl)
        simp only [Act.put, List.setIfInBounds_toArray, List.set_cons_zero, List.set_cons_succ]
        refine skip_held 30 (by assumption) rfl (by kernel_rfl) (by kernel_rfl) (by kernel_rfl) (fun _ _ _ h => h) (by kernel_rfl) ?_
        simp only [Act.put, List.setIfInBounds_toArray, List.set_cons_zero, List.set_cons_succ]
        refine skip_held 31 (by assumption) rfl (by kernel_rfl) (by kernel_rfl) (by kernel_rfl) (fun _ _ _ h => h) (by kernel_rfl) ?_
        simp only [Act.put, List.setIfInBounds_toArray, List.set_cons_zero, List.set_cons_succ]
        refine skip_held 32 (by assumption) rfl (by kernel_rfl) (by kernel_rfl) (by kernel_rfl) (fun _ _ _ h => h) (by kernel_rfl) ?_
        simp only [Act.put, List.setIfInBounds_toArray, List.set_cons_zero, List.set_cons_succ]
        refine skip_held 33 (by assumption) rfl (by kernel_rfl) (by kernel_rfl) (by kernel_rfl) (fun _ _ _ h => h) (by kernel_rfl) ?_
        simp only [Act.put, List.setIfInBounds_toArray, List.set_cons_zero, List.set_cons_succ]
        refine skip_held 34 (by assumption) rfl (by kernel_rfl) (by kernel_rfl) (by kernel_rfl) (fun _ _ _ h => h) (by kernel_rfl) ?_
        simp only [Act.put, List.setIfInBounds_toArray, List.set_cons_zero, List.set_cons_succ]
        refine skip_held 35 (by assumption) rfl (by kernel_rfl) (by kernel_rfl) (by kernel_rfl) (fun _ _ _ h => h) (by kernel_rfl) ?_
        simp only [Act.put, List.setIfInBounds_toArray, List.set_cons_zero, List.set_cons_succ]
        refine take_held 36 (by assumption) rfl (by kernel_rfl) (by kernel_rfl) (by kernel_rfl) (fun _ _ _ h => h) (by kernel_rfl) (v := .bool true) ?y63 ?r63
        case y63 => (intro u hu; go_simp; try rfl)
        simp only [Act.put, List.setIfInBounds_toArray, List.set_cons_zero, List.set_cons_succ]
        refine done_held (by kernel_rfl) ?_ _
        go_wp2
        go_ret
        exact hBad.out hbx.out _ (bcat bw.out (by rw [hIH] at hS; exact hS))
      | true =>
        have cT := rthere_call Td ht
        by_cases r1 : x.f < 0
        · have hbx : Hid (badW ls.length x = true) := by unfold Hid badW; simp [r1]
          have d1 : decide (x.f < 0) = true := decide_eq_true r1
          clear ht r1
          go_wp2_with fail
          refine start_held (S := IH) 37 rfl (by kernel_rfl) (hS) ?_
          simp only [Array.replicate_succ, Array.replicate_zero, List.push_toArray, List.nil_append, List.cons_append]
          refine take_held 0 (by assumption) rfl (by kernel_rfl) (by kernel_rfl) (by kernel_rfl) (fun _ _ _ h => h) (by kernel_rfl) (v := ?v64) ?y64 ?r64
          case y64 => (intro u hu; go_simp; try rfl)
          simp only [Act.put, List.setIfInBounds_toArray, List.set_cons_zero, List.set_cons_succ]
          refine take_held 1 (by assumption) rfl (by kernel_rfl) (by kernel_rfl) (by kernel_rfl) (fun _ _ _ h => h) (by kernel_rfl) (v := ?v65) ?y65 ?r65
          case y65 => (intro u hu; go_simp; try rfl)
          simp only [Act.put, List.setIfInBounds_toArray, List.set_cons_zero, List.set_cons_succ]
          refine take_held 2 (by assumption) rfl (by kernel_rfl) (by kernel_rfl) (by kernel_rfl) (fun _ _ _ h => h) (by kernel_rfl) (v := ?v66) ?y66 ?r66
          case y66 => (intro u hu; go_simp; try rfl)
          simp only [Act.put, List.setIfInBounds_toArray, List.set_cons_zero, List.set_cons_succ]
          refine take_held 3 (by assumption) rfl (by kernel_rfl) (by kernel_rfl) (by kernel_rfl) (fun _ _ _ h => h) (by kernel_rfl) (v := ?v67) ?y67 ?r67
          case y67 => (intro u hu; go_simp; try rfl)
          simp only [Act.put, List.setIfInBounds_toArray, List.set_cons_zero, List.set_cons_succ]
          refine take_held 4 (by assumption) rfl (by kernel_rfl) (by kernel_rfl) (by kernel_rfl) (fun _ _ _ h => h) (by kernel_rfl) (v := ?v68) ?y68 ?r68
          case y68 => (intro u hu; go_simp; try rfl)
          simp only [Act.put, List.setIfInBounds_toArray, List.set_cons_zero, List.set_cons_succ]
          refine take_held 5 (by assumption) rfl (by kernel_rfl) (by kernel_rfl) (by kernel_rfl) (fun _ _ _ h => h) (by kernel_rfl) (v := ?v69) ?y69 ?r69
          case y69 => (intro u hu; have zz0 := k0 u hu; go_simp; try rfl)
          simp only [Act.put, List.setIfInBounds_toArray, List.set_cons_zero, List.set_cons_succ]
          refine wpAnyH_ready (rs := [6]) (by kernel_rfl) (by simp) (AllReadyH.cons ((nth_eq _ 6).trans rfl) ?_ AllReadyH.nil)
          intro K' hK
          refine call_in hK (by kernel_rfl) 55 #[.pointer (some ⟨b, 0, none⟩), .int .i64 x.c] (by go_simp) _ (cT) ?_
          rintro v w6 ⟨rfl, rfl⟩
          refine ⟨hS, ?_⟩
          simp only [Act.put, List.setIfInBounds_toArray, List.set_cons_zero, List.set_cons_succ]
          refine take_held 7 (by assumption) rfl (by kernel_rfl) (by kernel_rfl) (by kernel_rfl) (fun _ _ _ h => h) (by kernel_rfl) (v := .bool false) ?y70 ?r70
          case y70 => (intro u hu; go_simp; try rfl)
          simp only [Act.put, List.setIfInBounds_toArray, List.set_cons_zero, List.set_cons_succ]
          refine take_held 8 (by assumption) rfl (by kernel_rfl) (by kernel_rfl) (by kernel_rfl) (fun _ _ _ h => h) (by kernel_rfl) (v := ?v71) ?y71 ?r71
          case y71 => (intro u hu; go_simp; try rfl)
          simp only [Act.put, List.setIfInBounds_toArray, List.set_cons_zero, List.set_cons_succ]
          refine take_held 9 (by assumption) rfl (by kernel_rfl) (by kernel_rfl) (by kernel_rfl) (fun _ _ _ h => h) (by kernel_rfl) (v := ?v72) ?y72 ?r72
          case y72 => (intro u hu; go_simp; try rfl)
          simp only [Act.put, List.setIfInBounds_toArray, List.set_cons_zero, List.set_cons_succ]
          refine take_held 10 (by assumption) rfl (by kernel_rfl) (by kernel_rfl) (by kernel_rfl) (fun _ _ _ h => h) (by kernel_rfl) (v := ?v73) ?y73 ?r73
          case y73 => (intro u hu; go_simp; try rfl)
          simp only [Act.put, List.setIfInBounds_toArray, List.set_cons_zero, List.set_cons_succ]
          refine take_held 11 (by assumption) rfl (by kernel_rfl) (by kernel_rfl) (by kernel_rfl) (fun _ _ _ h => h) (by kernel_rfl) (v := ?v74) ?y74 ?r74
          case y74 => (intro u hu; go_simp; try rfl)
          simp only [Act.put, List.setIfInBounds_toArray, List.set_cons_zero, List.set_cons_succ]
          refine take_held 12 (by assumption) rfl (by kernel_rfl) (by kernel_rfl) (by kernel_rfl) (fun _ _ _ h => h) (by kernel_rfl) (v := ?v75) ?y75 ?r75
          case y75 => (intro u hu; go_simp; try rfl)
          simp only [Act.put, List.setIfInBounds_toArray, List.set_cons_zero, List.set_cons_succ]
          refine take_held 13 (by assumption) rfl (by kernel_rfl) (by kernel_rfl) (by kernel_rfl) (fun _ _ _ h => h) (by kernel_rfl) (v := ?v76) ?y76 ?r76
          case y76 => (intro u hu; have zz0 := k1 u hu; go_simp; try rfl)
          simp only [Act.put, List.setIfInBounds_toArray, List.set_cons_zero, List.set_cons_succ]
          refine take_held 14 (by assumption) rfl (by kernel_rfl) (by kernel_rfl) (by kernel_rfl) (fun _ _ _ h => h) (by kernel_rfl) (v := .bool true) ?y77 ?r77
          case y77 => (intro u hu; go_simp; try rfl)
          simp only [Act.put, List.setIfInBounds_toArray, List.set_cons_zero, List.set_cons_succ]
          refine take_held 15 (by assumption) rfl (by kernel_rfl) (by kernel_rfl) (by kernel_rfl) (fun _ _ _ h => h) (by kernel_rfl) (v := .bool true) ?y78 ?r78
          case y78 => (intro u hu; go_simp; try rfl)
          simp only [Act.put, List.setIfInBounds_toArray, List.set_cons_zero, List.set_cons_succ]
          refine take_held 16 (by assumption) rfl (by kernel_rfl) (by kernel_rfl) (by kernel_rfl) (fun _ _ _ h => h) (by kernel_rfl) (v := ?v79) ?y79 ?r79
          case y79 => (intro u hu; go_simp; try rfl)
          simp only [Act.put, List.setIfInBounds_toArray, List.set_cons_zero, List.set_cons_succ]
          refine skip_held 17 (by assumption) rfl (by kernel_rfl) (by kernel_rfl) (by kernel_rfl) (fun _ _ _ h => h) (by kernel_rfl) ?_
          simp only [Act.put, List.setIfInBounds_toArray, List.set_cons_zero, List.set_cons_succ]
          refine skip_held 18 (by assumption) rfl (by kernel_rfl) (by kernel_rfl) (by kernel_rfl) (fun _ _ _ h => h) (by kernel_rfl) ?_
          simp only [Act.put, List.setIfInBounds_toArray, List.set_cons_zero, List.set_cons_succ]
          refine skip_held 19 (by assumption) rfl (by kernel_rfl) (by kernel_rfl) (by kernel_rfl) (fun _ _ _ h => h) (by kernel_rfl) ?_
          simp only [Act.put, List.setIfInBounds_toArray, List.set_cons_zero, List.set_cons_succ]
          refine skip_held 20 (by assumption) rfl (by kernel_rfl) (by kernel_rfl) (by kernel_rfl) (fun _ _ _ h => h) (by kernel_rfl) ?_
          simp only [Act.put, List.setIfInBounds_toArray, List.set_cons_zero, List.set_cons_succ]
          refine skip_held 21 (by assumption) rfl (by kernel_rfl) (by kernel_rfl) (by kernel_rfl) (fun _ _ _ h => h) (by kernel_rfl) ?_
          simp only [Act.put, List.setIfInBounds_toArray, List.set_cons_zero, List.set_cons_succ]
          refine skip_held 22 (by assumption) rfl (by kernel_rfl) (by kernel_rfl) (by kernel_rfl) (fun _ _ _ h => h) (by kernel_rfl) ?_
          simp only [Act.put, List.setIfInBounds_toArray, List.set_cons_zero, List.set_cons_succ]
          refine skip_held 23 (by assumption) rfl (by kernel_rfl) (by kernel_rfl) (by kernel_rfl) (fun _ _ _ h => h) (by kernel_rfl) ?_
          simp only [Act.put, List.setIfInBounds_toArray, List.set_cons_zero, List.set_cons_succ]
          refine skip_held 24 (by assumption) rfl (by kernel_rfl) (by kernel_rfl) (by kernel_rfl) (fun _ _ _ h => h) (by kernel_rfl) ?_
          simp only [Act.put, List.setIfInBounds_toArray, List.set_cons_zero, List.set_cons_succ]
          refine skip_held 25 (by assumption) rfl (by kernel_rfl) (by kernel_rfl) (by kernel_rfl) (fun _ _ _ h => h) (by kernel_rfl) ?_
          simp only [Act.put, List.setIfInBounds_toArray, List.set_cons_zero, List.set_cons_succ]
          refine skip_held 26 (by assumption) rfl (by kernel_rfl) (by kernel_rfl) (by kernel_rfl) (fun _ _ _ h => h) (by kernel_rfl) ?_
          simp only [Act.put, List.setIfInBounds_toArray, List.set_cons_zero, List.set_cons_succ]
          refine skip_held 27 (by assumption) rfl (by kernel_rfl) (by kernel_rfl) (by kernel_rfl) (fun _ _ _ h => h) (by kernel_rfl) ?_
          simp only [Act.put, List.setIfInBounds_toArray, List.set_cons_zero, List.set_cons_succ]
          refine take_held 28 (by assumption) rfl (by kernel_rfl) (by kernel_rfl) (by kernel_rfl) (fun _ _ _ h => h) (by kernel_rfl) (v := .bool true) ?y80 ?r80
          case y80 => (intro u hu; go_simp; try rfl)
          simp only [Act.put, List.setIfInBounds_toArray, List.set_cons_zero, List.set_cons_succ]
          refine take_held 29 (by assumption) rfl (by kernel_rfl) (by kernel_rfl) (by kernel_rfl) (fun _ _ _ h => h) (by kernel_rfl) (v := ?v81) ?y81 ?r81
          case y81 => (intro u hu; go_simp; try rfl)
          simp only [Act.put, List.setIfInBounds_toArray, List.set_cons_zero, List.set_cons_succ]
          refine skip_held 30 (by assumption) rfl (by kernel_rfl) (by kernel_rfl) (by kernel_rfl) (fun _ _ _ h => h) (by kernel_rfl) ?_
          simp only [Act.put, List.setIfInBounds_toArray, List.set_cons_zero, List.set_cons_succ]
          refine skip_held 31 (by assumption) rfl (by kernel_rfl) (by kernel_rfl) (by kernel_rfl) (fun _ _ _ h => h) (by kernel_rfl) ?_
          simp only [Act.put, List.setIfInBounds_toArray, List.set_cons_zero, List.set_cons_succ]
          refine skip_held 32 (by assumption) rfl (by kernel_rfl) (by kernel_rfl) (by kernel_rfl) (fun _ _ _ h => h) (by kernel_rfl) ?_
          simp only [Act.put, List.setIfInBounds_toArray, List.set_cons_zero, List.set_cons_succ]
          refine skip_held 33 (by assumption) rfl (by kernel_rfl) (by kernel_rfl) (by kernel_rfl) (fun _ _ _ h => h) (by kernel_rfl) ?_
          simp only [Act.put, List.setIfInBounds_toArray, List.set_cons_zero, List.set_cons_succ]
          refine skip_held 34 (by assumption) rfl (by kernel_rfl) (by kernel_rfl) (by kernel_rfl) (fun _ _ _ h => h) (by kernel_rfl) ?_
          simp only [Act.put, List.setIfInBounds_toArray, List.set_cons_zero, List.set_cons_succ]
          refine skip_held 35 (by assumption) rfl (by kernel_rfl) (by kernel_rfl) (by kernel_rfl) (fun _ _ _ h => h) (by kernel_rfl) ?_
          simp only [Act.put, List.setIfInBounds_toArray, List.set_cons_zero, List.set_cons_succ]
          refine take_held 36 (by assumption) rfl (by kernel_rfl) (by kernel_rfl) (by kernel_rfl) (fun _ _ _ h => h) (by kernel_rfl) (v := .bool true) ?y82 ?r82
          case y82 => (intro u hu; go_simp; try rfl)
          simp only [Act.put, List.setIfInBounds_toArray, List.set_cons_zero, List.set_cons_succ]
          refine done_held (by kernel_rfl) ?_ _
          go_wp2
          go_ret
          exact hBad.out hbx.out _ (bcat bw.out (by rw [hIH] at hS; exact hS))
        · have d1 : decide (x.f < 0) = false := decide_eq_false r1
          by_cases r2 : x.t ≤ x.f
          · have hbx : Hid (badW ls.length x = true) := by unfold Hid badW; simp [r2]
            have d2 : decide (x.f ≥ x.t) = true := decide_eq_true r2
            clear ht r1 r2
            go_wp2_with fail
            refine start_held (S := IH) 37 rfl (by kernel_rfl) (hS) ?_
            simp only [Array.replicate_succ, Array.replicate_zero, List.push_toArray, List.nil_append, List.cons_append]
            refine take_held 0 (by assumption) rfl (by kernel_rfl) (by kernel_rfl) (by kernel_rfl) (fun _ _ _ h => h) (by kernel_rfl) (v := ?v83) ?y83 ?r83
            case y83 => (intro u hu; go_simp; try rfl)
            simp only [Act.put, List.setIfInBounds_toArray, List.set_cons_zero, List.set_cons_succ]
            refine take_held 1 (by assumption) rfl (by kernel_rfl) (by kernel_rfl) (by kernel_rfl) (fun _ _ _ h => h) (by kernel_rfl) (v := ?v84) ?y84 ?r84
            case y84 => (intro u hu; go_simp; try rfl)
            simp only [Act.put, List.setIfInBounds_toArray, List.set_cons_zero, List.set_cons_succ]
            refine take_held 2 (by assumption) rfl (by kernel_rfl) (by kernel_rfl) (by kernel_rfl) (fun _ _ _ h => h) (by kernel_rfl) (v := ?v85) ?y85 ?r85
            case y85 => (intro u hu; go_simp; try rfl)
            simp only [Act.put, List.setIfInBounds_toArray, List.set_cons_zero, List.set_cons_succ]
            refine take_held 3 (by assumption) rfl (by kernel_rfl) (by kernel_rfl) (by kernel_rfl) (fun _ _ _ h => h) (by kernel_rfl) (v := ?v86) ?y86 ?r86
            case y86 => (intro u hu; go_simp; try rfl)
            simp only [Act.put, List.setIfInBounds_toArray, List.set_cons_zero, List.set_cons_succ]
            refine take_held 4 (by assumption) rfl (by kernel_rfl) (by kernel_rfl) (by kernel_rfl) (fun _ _ _ h => h) (by kernel_rfl) (v := ?v87) ?y87 ?r87
            case y87 => (intro u hu; go_simp; try rfl)
            simp only [Act.put, List.setIfInBounds_toArray, List.set_cons_zero, List.set_cons_succ]
            refine take_held 5 (by assumption) rfl (by kernel_rfl) (by kernel_rfl) (by kernel_rfl) (fun _ _ _ h => h) (by kernel_rfl) (v := ?v88) ?y88 ?r88
            case y88 => (intro u hu; have zz0 := k0 u hu; go_simp; try rfl)
            simp only [Act.put, List.setIfInBounds_toArray, List.set_cons_zero, List.set_cons_succ]
            refine wpAnyH_ready (rs := [6]) (by kernel_rfl) (by simp) (AllReadyH.cons ((nth_eq _ 6).trans rfl) ?_ AllReadyH.nil)
            intro K' hK
            refine call_in hK (by kernel_rfl) 55 #[.pointer (some ⟨b, 0, none⟩), .int .i64 x.c] (by go_simp) _ (cT) ?_
            rintro v w6 ⟨rfl, rfl⟩
            refine ⟨hS, ?_⟩
            simp only [Act.put, List.setIfInBounds_toArray, List.set_cons_zero, List.set_cons_succ]
            refine take_held 7 (by assumption) rfl (by kernel_rfl) (by kernel_rfl) (by kernel_rfl) (fun _ _ _ h => h) (by kernel_rfl) (v := .bool false) ?y89 ?r89
            case y89 => (intro u hu; go_simp; try rfl)
            simp only [Act.put, List.setIfInBounds_toArray, List.set_cons_zero, List.set_cons_succ]
            refine take_held 8 (by assumption) rfl (by kernel_rfl) (by kernel_rfl) (by kernel_rfl) (fun _ _ _ h => h) (by kernel_rfl) (v := ?v90) ?y90 ?r90
            case y90 => (intro u hu; go_simp; try rfl)
            simp only [Act.put, List.setIfInBounds_toArray, List.set_cons_zero, List.set_cons_succ]
            refine take_held 9 (by assumption) rfl (by kernel_rfl) (by kernel_rfl) (by kernel_rfl) (fun _ _ _ h => h) (by kernel_rfl) (v := ?v91) ?y91 ?r91
            case y91 => (intro u hu; go_simp; try rfl)
            simp only [Act.put, List.setIfInBounds_toArray, List.set_cons_zero, List.set_cons_succ]
            refine take_held 10 (by assumption) rfl (by kernel_rfl) (by kernel_rfl) (by kernel_rfl) (fun _ _ _ h => h) (by kernel_rfl) (v := ?v92) ?y92 ?r92
            case y92 => (intro u hu; go_simp; try rfl)
            simp only [Act.put, List.setIfInBounds_toArray, List.set_cons_zero, List.set_cons_succ]
            refine take_held 11 (by assumption) rfl (by kernel_rfl) (by kernel_rfl) (by kernel_rfl) (fun _ _ _ h => h) (by kernel_rfl) (v := ?v93) ?y93 ?r93
            case y93 => (intro u hu; go_simp; try rfl)
            simp only [Act.put, List.setIfInBounds_toArray, List.set_cons_zero, List.set_cons_succ]
            refine take_held 12 (by assumption) rfl (by kernel_rfl) (by kernel_rfl) (by kernel_rfl) (fun _ _ _ h => h) (by kernel_rfl) (v := ?v94) ?y94 ?r94
            case y94 => (intro u hu; go_simp; try rfl)
            simp only [Act.put, List.setIfInBounds_toArray, List.set_cons_zero, List.set_cons_succ]
            refine take_held 13 (by assumption) rfl (by kernel_rfl) (by kernel_rfl) (by kernel_rfl) (fun _ _ _ h => h) (by kernel_rfl) (v := ?v95) ?y95 ?r95
            case y95 => (intro u hu; have zz0 := k1 u hu; go_simp; try rfl)
            simp only [Act.put, List.setIfInBounds_toArray, List.set_cons_zero, List.set_cons_succ]
            refine take_held 14 (by assumption) rfl (by kernel_rfl) (by kernel_rfl) (by kernel_rfl) (fun _ _ _ h => h) (by kernel_rfl) (v := .bool false) ?y96 ?r96
            case y96 => (intro u hu; go_simp; try rfl)
            simp only [Act.put, List.setIfInBounds_toArray, List.set_cons_zero, List.set_cons_succ]
            refine take_held 15 (by assumption) rfl (by kernel_rfl) (by kernel_rfl) (by kernel_rfl) (fun _ _ _ h => h) (by kernel_rfl) (v := .bool false) ?y97 ?r97
            case y97 => (intro u hu; go_simp; try rfl)
            simp only [Act.put, List.setIfInBounds_toArray, List.set_cons_zero, List.set_cons_succ]
            refine take_held 16 (by assumption) rfl (by kernel_rfl) (by kernel_rfl) (by kernel_rfl) (fun _ _ _ h => h) (by kernel_rfl) (v := ?v98) ?y98 ?r98
            case y98 => (intro u hu; go_simp; try rfl)
            simp only [Act.put, List.setIfInBounds_toArray, List.set_cons_zero, List.set_cons_succ]
            refine take_held 17 (by assumption) rfl (by kernel_rfl) (by kernel_rfl) (by kernel_rfl) (fun _ _ _ h => h) (by kernel_rfl) (v := ?v99) ?y99 ?r99
            case y99 => (intro u hu; go_simp; try rfl)
            simp only [Act.put, List.setIfInBounds_toArray, List.set_cons_zero, List.set_cons_succ]
            refine take_held 18 (by assumption) rfl (by kernel_rfl) (by kernel_rfl) (by kernel_rfl) (fun _ _ _ h => h) (by kernel_rfl) (v := ?v100) ?y100 ?r100
            case y100 => (intro u hu; go_simp; try rfl)
            simp only [Act.put, List.setIfInBounds_toArray, List.set_cons_zero, List.set_cons_succ]
            refine take_held 19 (by assumption) rfl (by kernel_rfl) (by kernel_rfl) (by kernel_rfl) (fun _ _ _ h => h) (by kernel_rfl) (v := ?v101) ?y101 ?r101
            case y101 => (intro u hu; go_simp; try rfl)
            simp only [Act.put, List.setIfInBounds_toArray, List.set_cons_zero, List.set_cons_succ]
            refine take_held 20 (by assumption) rfl (by kernel_rfl) (by kernel_rfl) (by kernel_rfl) (fun _ _ _ h => h) (by kernel_rfl) (v := ?v102) ?y102 ?r102
            case y102 => (intro u hu; go_simp; try rfl)
            simp only [Act.put, List.setIfInBounds_toArray, List.set_cons_zero, List.set_cons_succ]
            refine take_held 21 (by assumption) rfl (by kernel_rfl) (by kernel_rfl) (by kernel_rfl) (fun _ _ _ h => h) (by kernel_rfl) (v := ?v103) ?y103 ?r103
            case y103 => (intro u hu; have zz0 := k1 u hu; go_simp; try rfl)
            simp only [Act.put, List.setIfInBounds_toArray, List.set_cons_zero, List.set_cons_succ]
            refine take_held 22 (by assumption) rfl (by kernel_rfl) (by kernel_rfl) (by kernel_rfl) (fun _ _ _ h => h) (by kernel_rfl) (v := ?v104) ?y104 ?r104
            case y104 => (intro u hu; go_simp; try rfl)
            simp only [Act.put, List.setIfInBounds_toArray, List.set_cons_zero, List.set_cons_succ]
            refine take_held 23 (by assumption) rfl (by kernel_rfl) (by kernel_rfl) (by kernel_rfl) (fun _ _ _ h => h) (by kernel_rfl) (v := ?v105) ?y105 ?r105
            case y105 => (intro u hu; go_simp; try rfl)
            simp only [Act.put, List.setIfInBounds_toArray, List.set_cons_zero, List.set_cons_succ]
            refine take_held 24 (by assumption) rfl (by kernel_rfl) (by kernel_rfl) (by kernel_rfl) (fun _ _ _ h => h) (by kernel_rfl) (v := ?v106) ?y106 ?r106
            case y106 => (intro u hu; go_simp; try rfl)
            simp only [Act.put, List.setIfInBounds_toArray, List.set_cons_zero, List.set_cons_succ]
            refine take_held 25 (by assumption) rfl (by kernel_rfl) (by kernel_rfl) (by kernel_rfl) (fun _ _ _ h => h) (by kernel_rfl) (v := ?v107) ?y107 ?r107
            case y107 => (intro u hu; go_simp; try rfl)
            simp only [Act.put, List.setIfInBounds_toArray, List.set_cons_zero, List.set_cons_succ]
            refine take_held 26 (by assumption) rfl (by kernel_rfl) (by kernel_rfl) (by kernel_rfl) (fun _ _ _ h => h) (by kernel_rfl) (v := ?v108) ?y108 ?r108
            case y108 => (intro u hu; have zz0 := k2 u hu; go_simp; try rfl)
            simp only [Act.put, List.setIfInBounds_toArray, List.set_cons_zero, List.set_cons_succ]
            refine take_held 27 (by assumption) rfl (by kernel_rfl) (by kernel_rfl) (by kernel_rfl) (fun _ _ _ h => h) (by kernel_rfl) (v := .bool true) ?y109 ?r109
            case y109 => (intro u hu; go_simp; try rfl)
            simp only [Act.put, List.setIfInBounds_toArray, List.set_cons_zero, List.set_cons_succ]
            refine take_held 28 (by assumption) rfl (by kernel_rfl) (by kernel_rfl) (by kernel_rfl) (fun _ _ _ h => h) (by kernel_rfl) (v := .bool true) ?y110 ?r110
            case y110 => (intro u hu; go_simp; try rfl)
            simp only [Act.put, List.setIfInBounds_toArray, List.set_cons_zero, List.set_cons_succ]
            refine take_held 29 (by assumption) rfl (by kernel_rfl) (by kernel_rfl) (by kernel_rfl) (fun _ _ _ h => h) (by kernel_rfl) (v := ?v111) ?y111 ?r111
            case y111 => (intro u hu; go_simp; try rfl)
            simp only [Act.put, List.setIfInBounds_toArray, List.set_cons_zero, List.set_cons_succ]
            refine skip_held 30 (by assumption) rfl (by kernel_rfl) (by kernel_rfl) (by kernel_rfl) (fun _ _ _ h => h) (by kernel_rfl) ?_
            simp only [Act.put, List.setIfInBounds_toArray, List.set_cons_zero, List.set_cons_succ]
            refine skip_held 31 (by assumption) rfl (by kernel_rfl) (by kernel_rfl) (by kernel_rfl) (fun _ _ _ h => h) (by kernel_rfl) ?_
            simp only [Act.put, List.setIfInBounds_toArray, List.set_cons_zero, List.set_cons_succ]
            refine skip_held 32 (by assumption) rfl (by kernel_rfl) (by kernel_rfl) (by kernel_rfl) (fun _ _ _ h => h) (by kernel_rfl) ?_
            simp only [Act.put, List.setIfInBounds_toArray, List.set_cons_zero, List.set_cons_succ]
            refine skip_held 33 (by assumption) rfl (by kernel_rfl) (by kernel_rfl) (by kernel_rfl) (fun _ _ _ h => h) (by kernel_rfl) ?_
            simp only [Act.put, List.setIfInBounds_toArray, List.set_cons_zero, List.set_cons_succ]
            refine skip_held 34 (by assumption) rfl (by kernel_rfl) (by kernel_rfl) (by kernel_rfl) (fun _ _ _ h => h) (by kernel_rfl) ?_
            simp only [Act.put, List.setIfInBounds_toArray, List.set_cons_zero, List.set_cons_succ]
            refine skip_held 35 (by assumption) rfl (by kernel_rfl) (by kernel_rfl) (by kernel_rfl) (fun _ _ _ h => h) (by kernel_rfl) ?_
            simp only [Act.put, List.setIfInBounds_toArray, List.set_cons_zero, List.set_cons_succ]
            refine take_held 36 (by assumption) rfl (by kernel_rfl) (by kernel_rfl) (by kernel_rfl) (fun _ _ _ h => h) (by kernel_rfl) (v := .bool true) ?y112 ?r112
            case y112 => (intro u hu; go_simp; try rfl)
            simp only [Act.put, List.setIfInBounds_toArray, List.set_cons_zero, List.set_cons_succ]
            refine done_held (by kernel_rfl) ?_ _
            go_wp2
            go_ret
            exact hBad.out hbx.out _ (bcat bw.out (by rw [hIH] at hS; exact hS))
          · have d2 : decide (x.f ≥ x.t) = false := decide_eq_false r2
            by_cases r3 : FV < x.t
            · have hbx : Hid (badW ls.length x = true) := by unfold Hid badW; simp [r3]
              have d3 : decide (x.t > 4611686018427387904) = true := decide_eq_true r3
              clear ht r1 r2 r3
              go_wp2_with fail
              refine start_held (S := IH) 37 rfl (by kernel_rfl) (hS) ?_
              simp only [Array.replicate_succ, Array.replicate_zero, List.push_toArray, List.nil_append, List.cons_append]
              refine take_held 0 (by assumption) rfl (by kernel_rfl) (by kernel_rfl) (by kernel_rfl) (fun _ _ _ h => h) (by kernel_rfl) (v := ?v113) ?y113 ?r113
              case y113 => (intro u hu; go_simp; try rfl)
              simp only [Act.put, List.setIfInBounds_toArray, List.set_cons_zero, List.set_cons_succ]
              refine take_held 1 (by assumption) rfl (by kernel_rfl) (by kernel_rfl) (by kernel_rfl) (fun _ _ _ h => h) (by kernel_rfl) (v := ?v114) ?y114 ?r114
              case y114 => (intro u hu; go_simp; try rfl)
              simp only [Act.put, List.setIfInBounds_toArray, List.set_cons_zero, List.set_cons_succ]
              refine take_held 2 (by assumption) rfl (by kernel_rfl) (by kernel_rfl) (by kernel_rfl) (fun _ _ _ h => h) (by kernel_rfl) (v := ?v115) ?y115 ?r115
              case y115 => (intro u hu; go_simp; try rfl)
              simp only [Act.put, List.setIfInBounds_toArray, List.set_cons_zero, List.set_cons_succ]
              refine take_held 3 (by assumption) rfl (by kernel_rfl) (by kernel_rfl) (by kernel_rfl) (fun _ _ _ h => h) (by kernel_rfl) (v := ?v116) ?y116 ?r116
              case y116 => (intro u hu; go_simp; try rfl)
              simp only [Act.put, List.setIfInBounds_toArray, List.set_cons_zero, List.set_cons_succ]
              refine take_held 4 (by assumption) rfl (by kernel_rfl) (by kernel_rfl) (by kernel_rfl) (fun _ _ _ h => h) (by kernel_rfl) (v := ?v117) ?y117 ?r117
              case y117 => (intro u hu; go_simp; try rfl)
              simp only [Act.put, List.setIfInBounds_toArray, List.set_cons_zero, List.set_cons_succ]
              refine take_held 5 (by assumption) rfl (by kernel_rfl) (by kernel_rfl) (by kernel_rfl) (fun _ _ _ h => h) (by kernel_rfl) (v := ?v118) ?y118 ?r118
              case y118 => (intro u hu; have zz0 := k0 u hu; go_simp; try rfl)
              simp only [Act.put, List.setIfInBounds_toArray, List.set_cons_zero, List.set_cons_succ]
              refine wpAnyH_ready (rs := [6]) (by kernel_rfl) (by simp) (AllReadyH.cons ((nth_eq _ 6).trans rfl) ?_ AllReadyH.nil)
              intro K' hK
              refine call_in hK (by kernel_rfl) 55 #[.pointer (some ⟨b, 0, none⟩), .int .i64 x.c] (by go_simp) _ (cT) ?_
              rintro v w6 ⟨rfl, rfl⟩
              refine ⟨hS, ?_⟩
              simp only [Act.put, List.setIfInBounds_toArray, List.set_cons_zero, List.set_cons_succ]
              refine take_held 7 (by assumption) rfl (by kernel_rfl) (by kernel_rfl) (by kernel_rfl) (fun _ _ _ h => h) (by kernel_rfl) (v := .bool false) ?y119 ?r119
              case y119 => (intro u hu; go_simp; try rfl)
              simp only [Act.put, List.setIfInBounds_toArray, List.set_cons_zero, List.set_cons_succ]
              refine take_held 8 (by assumption) rfl (by kernel_rfl) (by kernel_rfl) (by kernel_rfl) (fun _ _ _ h => h) (by kernel_rfl) (v := ?v120) ?y120 ?r120
              case y120 => (intro u hu; go_simp; try rfl)
              simp only [Act.put, List.setIfInBounds_toArray, List.set_cons_zero, List.set_cons_succ]
              refine take_held 9 (by assumption) rfl (by kernel_rfl) (by kernel_rfl) (by kernel_rfl) (fun _ _ _ h => h) (by kernel_rfl) (v := ?v121) ?y121 ?r121
              case y121 => (intro u hu; go_simp; try rfl)
              simp only [Act.put, List.setIfInBounds_toArray, List.set_cons_zero, List.set_cons_succ]
              refine take_held 10 (by assumption) rfl (by kernel_rfl) (by kernel_rfl) (by kernel_rfl) (fun _ _ _ h => h) (by kernel_rfl) (v := ?v122) ?y122 ?r122
              case y122 => (intro u hu; go_simp; try rfl)
              simp only [Act.put, List.setIfInBounds_toArray, List.set_cons_zero, List.set_cons_succ]
              refine take_held 11 (by assumption) rfl (by kernel_rfl) (by kernel_rfl) (by kernel_rfl) (fun _ _ _ h => h) (by kernel_rfl) (v := ?v123) ?y123 ?r123
              case y123 => (intro u hu; go_simp; try rfl)
              simp only [Act.put, List.setIfInBounds_toArray, List.set_cons_zero, List.set_cons_succ]
              refine take_held 12 (by assumption) rfl (by kernel_rfl) (by kernel_rfl) (by kernel_rfl) (fun _ _ _ h => h) (by kernel_rfl) (v := ?v124) ?y124 ?r124
              case y124 => (intro u hu; go_simp; try rfl)
              simp only [Act.put, List.setIfInBounds_toArray, List.set_cons_zero, List.set_cons_succ]
              refine take_held 13 (by assumption) rfl (by kernel_rfl) (by kernel_rfl) (by kernel_rfl) (fun _ _ _ h => h) (by kernel_rfl) (v := ?v125) ?y125 ?r125
              case y125 => (intro u hu; have zz0 := k1 u hu; go_simp; try rfl)
              simp only [Act.put, List.setIfInBounds_toArray, List.set_cons_zero, List.set_cons_succ]
              refine take_held 14 (by assumption) rfl (by kernel_rfl) (by kernel_rfl) (by kernel_rfl) (fun _ _ _ h => h) (by kernel_rfl) (v := .bool false) ?y126 ?r126
              case y126 => (intro u hu; go_simp; try rfl)
              simp only [Act.put, List.setIfInBounds_toArray, List.set_cons_zero, List.set_cons_succ]
              refine take_held 15 (by assumption) rfl (by kernel_rfl) (by kernel_rfl) (by kernel_rfl) (fun _ _ _ h => h) (by kernel_rfl) (v := .bool false) ?y127 ?r127
              case y127 => (intro u hu; go_simp; try rfl)
              simp only [Act.put, List.setIfInBounds_toArray, List.set_cons_zero, List.set_cons_succ]
              refine take_held 16 (by assumption) rfl (by kernel_rfl) (by kernel_rfl) (by kernel_rfl) (fun _ _ _ h => h) (by kernel_rfl) (v := ?v128) ?y128 ?r128
              case y128 => (intro u hu; go_simp; try rfl)
              simp only [Act.put, List.setIfInBounds_toArray, List.set_cons_zero, List.set_cons_succ]
              refine take_held 17 (by assumption) rfl (by kernel_rfl) (by kernel_rfl) (by kernel_rfl) (fun _ _ _ h => h) (by kernel_rfl) (v := ?v129) ?y129 ?r129
              case y129 => (intro u hu; go_simp; try rfl)
              simp only [Act.put, List.setIfInBounds_toArray, List.set_cons_zero, List.set_cons_succ]
              refine take_held 18 (by assumption) rfl (by kernel_rfl) (by kernel_rfl) (by kernel_rfl) (fun _ _ _ h => h) (by kernel_rfl) (v := ?v130) ?y130 ?r130
              case y130 => (intro u hu; go_simp; try rfl)
              simp only [Act.put, List.setIfInBounds_toArray, List.set_cons_zero, List.set_cons_succ]
              refine take_held 19 (by assumption) rfl (by kernel_rfl) (by kernel_rfl) (by kernel_rfl) (fun _ _ _ h => h) (by kernel_rfl) (v := ?v131) ?y131 ?r131
              case y131 => (intro u hu; go_simp; try rfl)
              simp only [Act.put, List.setIfInBounds_toArray, List.set_cons_zero, List.set_cons_succ]
              refine take_held 20 (by assumption) rfl (by kernel_rfl) (by kernel_rfl) (by kernel_rfl) (fun _ _ _ h => h) (by kernel_rfl) (v := ?v132) ?y132 ?r132
              case y132 => (intro u hu; go_simp; try rfl)
              simp only [Act.put, List.setIfInBounds_toArray, List.set_cons_zero, List.set_cons_succ]
              refine take_held 21 (by assumption) rfl (by kernel_rfl) (by kernel_rfl) (by kernel_rfl) (fun _ _ _ h => h) (by kernel_rfl) (v := ?v133) ?y133 ?r133
              case y133 => (intro u hu; have zz0 := k1 u hu; go_simp; try rfl)
              simp only [Act.put, List.setIfInBounds_toArray, List.set_cons_zero, List.set_cons_succ]
              refine take_held 22 (by assumption) rfl (by kernel_rfl) (by kernel_rfl) (by kernel_rfl) (fun _ _ _ h => h) (by kernel_rfl) (v := ?v134) ?y134 ?r134
              case y134 => (intro u hu; go_simp; try rfl)
              simp only [Act.put, List.setIfInBounds_toArray, List.set_cons_zero, List.set_cons_succ]
              refine take_held 23 (by assumption) rfl (by kernel_rfl) (by kernel_rfl) (by kernel_rfl) (fun _ _ _ h => h) (by kernel_rfl) (v := ?v135) ?y135 ?r135
              case y135 => (intro u hu; go_simp; try rfl)
              simp only [Act.put, List.setIfInBounds_toArray, List.set_cons_zero, List.set_cons_succ]
              refine take_held 24 (by assumption) rfl (by kernel_rfl) (by kernel_rfl) (by kernel_rfl) (fun _ _ _ h => h) (by kernel_rfl) (v := ?v136) ?y136 ?r136
              case y136 => (intro u hu; go_simp; try rfl)
              simp only [Act.put, List.setIfInBounds_toArray, List.set_cons_zero, List.set_cons_succ]
              refine take_held 25 (by assumption) rfl (by kernel_rfl) (by kernel_rfl) (by kernel_rfl) (fun _ _ _ h => h) (by kernel_rfl) (v := ?v137) ?y137 ?r137
              case y137 => (intro u hu; go_simp; try rfl)
              simp only [Act.put, List.setIfInBounds_toArray, List.set_cons_zero, List.set_cons_succ]
              refine take_held 26 (by assumption) rfl (by kernel_rfl) (by kernel_rfl) (by kernel_rfl) (fun _ _ _ h => h) (by kernel_rfl) (v := ?v138) ?y138 ?r138
              case y138 => (intro u hu; have zz0 := k2 u hu; go_simp; try rfl)
              simp only [Act.put, List.setIfInBounds_toArray, List.set_cons_zero, List.set_cons_succ]
              refine take_held 27 (by assumption) rfl (by kernel_rfl) (by kernel_rfl) (by kernel_rfl) (fun _ _ _ h => h) (by kernel_rfl) (v := .bool false) ?y139 ?r139
              case y139 => (intro u hu; go_simp; try rfl)
              simp only [Act.put, List.setIfInBounds_toArray, List.set_cons_zero, List.set_cons_succ]
              refine take_held 28 (by assumption) rfl (by kernel_rfl) (by kernel_rfl) (by kernel_rfl) (fun _ _ _ h => h) (by kernel_rfl) (v := .bool false) ?y140 ?r140
              case y140 => (intro u hu; go_simp; try rfl)
              simp only [Act.put, List.setIfInBounds_toArray, List.set_cons_zero, List.set_cons_succ]
              refine take_held 29 (by assumption) rfl (by kernel_rfl) (by kernel_rfl) (by kernel_rfl) (fun _ _ _ h => h) (by kernel_rfl) (v := ?v141) ?y141 ?r141
              case y141 => (intro u hu; go_simp; try rfl)
              simp only [Act.put, List.setIfInBounds_toArray, List.set_cons_zero, List.set_cons_succ]
              refine take_held 30 (by assumption) rfl (by kernel_rfl) (by kernel_rfl) (by kernel_rfl) (fun _ _ _ h => h) (by kernel_rfl) (v := ?v142) ?y142 ?r142
              case y142 => (intro u hu; go_simp; try rfl)
              simp only [Act.put, List.setIfInBounds_toArray, List.set_cons_zero, List.set_cons_succ]
              refine take_held 31 (by assumption) rfl (by kernel_rfl) (by kernel_rfl) (by kernel_rfl) (fun _ _ _ h => h) (by kernel_rfl) (v := ?v143) ?y143 ?r143
              case y143 => (intro u hu; go_simp; try rfl)
              simp only [Act.put, List.setIfInBounds_toArray, List.set_cons_zero, List.set_cons_succ]
              refine take_held 32 (by assumption) rfl (by kernel_rfl) (by kernel_rfl) (by kernel_rfl) (fun _ _ _ h => h) (by kernel_rfl) (v := ?v144) ?y144 ?r144
              case y144 => (intro u hu; go_simp; try rfl)
              simp only [Act.put, List.setIfInBounds_toArray, List.set_cons_zero, List.set_cons_succ]
              refine take_held 33 (by assumption) rfl (by kernel_rfl) (by kernel_rfl) (by kernel_rfl) (fun _ _ _ h => h) (by kernel_rfl) (v := ?v145) ?y145 ?r145
              case y145 => (intro u hu; go_simp; try rfl)
              simp only [Act.put, List.setIfInBounds_toArray, List.set_cons_zero, List.set_cons_succ]
              refine take_held 34 (by assumption) rfl (by kernel_rfl) (by kernel_rfl) (by kernel_rfl) (fun _ _ _ h => h) (by kernel_rfl) (v := ?v146) ?y146 ?r146
              case y146 => (intro u hu; have zz0 := k2 u hu; go_simp; try rfl)
              simp only [Act.put, List.setIfInBounds_toArray, List.set_cons_zero, List.set_cons_succ]
              refine take_held 35 (by assumption) rfl (by kernel_rfl) (by kernel_rfl) (by kernel_rfl) (fun _ _ _ h => h) (by kernel_rfl) (v := .bool true) ?y147 ?r147
              case y147 => (intro u hu; go_simp; try rfl)
              simp only [Act.put, List.setIfInBounds_toArray, List.set_cons_zero, List.set_cons_succ]
              refine take_held 36 (by assumption) rfl (by kernel_rfl) (by kernel_rfl) (by kernel_rfl) (fun _ _ _ h => h) (by kernel_rfl) (v := .bool true) ?y148 ?r148
              case y148 => (intro u hu; go_simp; try rfl)
              simp only [Act.put, List.setIfInBounds_toArray, List.set_cons_zero, List.set_cons_succ]
              refine done_held (by kernel_rfl) ?_ _
              go_wp2
              go_ret
              exact hBad.out hbx.out _ (bcat bw.out (by rw [hIH] at hS; exact hS))
            · have hbx : Hid ((ws.take (j + 1)).any (badW ls.length) = false) := by unfold Hid; rw [hS0.out]; unfold badW; rw [ht]; simp [r1, r2, r3]
              have d3 : decide (x.t > 4611686018427387904) = false := decide_eq_false r3
              clear ht r1 r2 r3
              go_wp2_with fail
              refine start_held (S := IH) 37 rfl (by kernel_rfl) (hS) ?_
              simp only [Array.replicate_succ, Array.replicate_zero, List.push_toArray, List.nil_append, List.cons_append]
              refine take_held 0 (by assumption) rfl (by kernel_rfl) (by kernel_rfl) (by kernel_rfl) (fun _ _ _ h => h) (by kernel_rfl) (v := ?v149) ?y149 ?r149
              case y149 => (intro u hu; go_simp; try rfl)
              simp only [Act.put, List.setIfInBounds_toArray, List.set_cons_zero, List.set_cons_succ]
              refine take_held 1 (by assumption) rfl (by kernel_rfl) (by kernel_rfl) (by kernel_rfl) (fun _ _ _ h => h) (by kernel_rfl) (v := ?v150) ?y150 ?r150
              case y150 => (intro u hu; go_simp; try rfl)
              simp only [Act.put, List.setIfInBounds_toArray, List.set_cons_zero, List.set_cons_succ]
              refine take_held 2 (by assumption) rfl (by kernel_rfl) (by kernel_rfl) (by kernel_rfl) (fun _ _ _ h => h) (by kernel_rfl) (v := ?v151) ?y151 ?r151
              case y151 => (intro u hu; go_simp; try rfl)
              simp only [Act.put, List.setIfInBounds_toArray, List.set_cons_zero, List.set_cons_succ]
              refine take_held 3 (by assumption) rfl (by kernel_rfl) (by kernel_rfl) (by kernel_rfl) (fun _ _ _ h => h) (by kernel_rfl) (v := ?v152) ?y152 ?r152
              case y152 => (intro u hu; go_simp; try rfl)
              simp only [Act.put, List.setIfInBounds_toArray, List.set_cons_zero, List.set_cons_succ]
              refine take_held 4 (by assumption) rfl (by kernel_rfl) (by kernel_rfl) (by kernel_rfl) (fun _ _ _ h => h) (by kernel_rfl) (v := ?v153) ?y153 ?r153
              case y153 => (intro u hu; go_simp; try rfl)
              simp only [Act.put, List.setIfInBounds_toArray, List.set_cons_zero, List.set_cons_succ]
              refine take_held 5 (by assumption) rfl (by kernel_rfl) (by kernel_rfl) (by kernel_rfl) (fun _ _ _ h => h) (by kernel_rfl) (v := ?v154) ?y154 ?r154
              case y154 => (intro u hu; have zz0 := k0 u hu; go_simp; try rfl)
              simp only [Act.put, List.setIfInBounds_toArray, List.set_cons_zero, List.set_cons_succ]
              refine wpAnyH_ready (rs := [6]) (by kernel_rfl) (by simp) (AllReadyH.cons ((nth_eq _ 6).trans rfl) ?_ AllReadyH.nil)
              intro K' hK
              refine call_in hK (by kernel_rfl) 55 #[.pointer (some ⟨b, 0, none⟩), .int .i64 x.c] (by go_simp) _ (cT) ?_
              rintro v w6 ⟨rfl, rfl⟩
              refine ⟨hS, ?_⟩
              simp only [Act.put, List.setIfInBounds_toArray, List.set_cons_zero, List.set_cons_succ]
              refine take_held 7 (by assumption) rfl (by kernel_rfl) (by kernel_rfl) (by kernel_rfl) (fun _ _ _ h => h) (by kernel_rfl) (v := .bool false) ?y155 ?r155
              case y155 => (intro u hu; go_simp; try rfl)
              simp only [Act.put, List.setIfInBounds_toArray, List.set_cons_zero, List.set_cons_succ]
              refine take_held 8 (by assumption) rfl (by kernel_rfl) (by kernel_rfl) (by kernel_rfl) (fun _ _ _ h => h) (by kernel_rfl) (v := ?v156) ?y156 ?r156
              case y156 => (intro u hu; go_simp; try rfl)
              simp only [Act.put, List.setIfInBounds_toArray, List.set_cons_zero, List.set_cons_succ]
              refine take_held 9 (by assumption) rfl (by kernel_rfl) (by kernel_rfl) (by kernel_rfl) (fun _ _ _ h => h) (by kernel_rfl) (v := ?v157) ?y157 ?r157
              case y157 => (intro u hu; go_simp; try rfl)
              simp only [Act.put, List.setIfInBounds_toArray, List.set_cons_zero, List.set_cons_succ]
              refine take_held 10 (by assumption) rfl (by kernel_rfl) (by kernel_rfl) (by kernel_rfl) (fun _ _ _ h => h) (by kernel_rfl) (v := ?v158) ?y158 ?r158
              case y158 => (intro u hu; go_simp; try rfl)
              simp only [Act.put, List.setIfInBounds_toArray, List.set_cons_zero, List.set_cons_succ]
              refine take_held 11 (by assumption) rfl (by kernel_rfl) (by kernel_rfl) (by kernel_rfl) (fun _ _ _ h => h) (by kernel_rfl) (v := ?v159) ?y159 ?r159
              case y159 => (intro u hu; go_simp; try rfl)
              simp only [Act.put, List.setIfInBounds_toArray, List.set_cons_zero, List.set_cons_succ]
              refine take_held 12 (by assumption) rfl (by kernel_rfl) (by kernel_rfl) (by kernel_rfl) (fun _ _ _ h => h) (by kernel_rfl) (v := ?v160) ?y160 ?r160
              case y160 => (intro u hu; go_simp; try rfl)
              simp only [Act.put, List.setIfInBounds_toArray, List.set_cons_zero, List.set_cons_succ]
              refine take_held 13 (by assumption) rfl (by kernel_rfl) (by kernel_rfl) (by kernel_rfl) (fun _ _ _ h => h) (by kernel_rfl) (v := ?v161) ?y161 ?r161
              case y161 => (intro u hu; have zz0 := k1 u hu; go_simp; try rfl)
              simp only [Act.put, List.setIfInBounds_toArray, List.set_cons_zero, List.set_cons_succ]
              refine take_held 14 (by assumption) rfl (by kernel_rfl) (by kernel_rfl) (by kernel_rfl) (fun _ _ _ h => h) (by kernel_rfl) (v := .bool false) ?y162 ?r162
              case y162 => (intro u hu; go_simp; try rfl)
              simp only [Act.put, List.setIfInBounds_toArray, List.set_cons_zero, List.set_cons_succ]
              refine take_held 15 (by assumption) rfl (by kernel_rfl) (by kernel_rfl) (by kernel_rfl) (fun _ _ _ h => h) (by kernel_rfl) (v := .bool false) ?y163 ?r163
              case y163 => (intro u hu; go_simp; try rfl)
              simp only [Act.put, List.setIfInBounds_toArray, List.set_cons_zero, List.set_cons_succ]
              refine take_held 16 (by assumption) rfl (by kernel_rfl) (by kernel_rfl) (by kernel_rfl) (fun _ _ _ h => h) (by kernel_rfl) (v := ?v164) ?y164 ?r164
              case y164 => (intro u hu; go_simp; try rfl)
              simp only [Act.put, List.setIfInBounds_toArray, List.set_cons_zero, List.set_cons_succ]
              refine take_held 17 (by assumption) rfl (by kernel_rfl) (by kernel_rfl) (by kernel_rfl) (fun _ _ _ h => h) (by kernel_rfl) (v := ?v165) ?y165 ?r165
              case y165 => (intro u hu; go_simp; try rfl)
              simp only [Act.put, List.setIfInBounds_toArray, List.set_cons_zero, List.set_cons_succ]
              refine take_held 18 (by assumption) rfl (by kernel_rfl) (by kernel_rfl) (by kernel_rfl) (fun _ _ _ h => h) (by kernel_rfl) (v := ?v166) ?y166 ?r166
              case y166 => (intro u hu; go_simp; try rfl)
              simp only [Act.put, List.setIfInBounds_toArray, List.set_cons_zero, List.set_cons_succ]
              refine take_held 19 (by assumption) rfl (by kernel_rfl) (by kernel_rfl) (by kernel_rfl) (fun _ _ _ h => h) (by kernel_rfl) (v := ?v167) ?y167 ?r167
              case y167 => (intro u hu; go_simp; try rfl)
              simp only [Act.put, List.setIfInBounds_toArray, List.set_cons_zero, List.set_cons_succ]
              refine take_held 20 (by assumption) rfl (by kernel_rfl) (by kernel_rfl) (by kernel_rfl) (fun _ _ _ h => h) (by kernel_rfl) (v := ?v168) ?y168 ?r168
              case y168 => (intro u hu; go_simp; try rfl)
              simp only [Act.put, List.setIfInBounds_toArray, List.set_cons_zero, List.set_cons_succ]
              refine take_held 21 (by assumption) rfl (by kernel_rfl) (by kernel_rfl) (by kernel_rfl) (fun _ _ _ h => h) (by kernel_rfl) (v := ?v169) ?y169 ?r169
              case y169 => (intro u hu; have zz0 := k1 u hu; go_simp; try rfl)
              simp only [Act.put, List.setIfInBounds_toArray, List.set_cons_zero, List.set_cons_succ]
              refine take_held 22 (by assumption) rfl (by kernel_rfl) (by kernel_rfl) (by kernel_rfl) (fun _ _ _ h => h) (by kernel_rfl) (v := ?v170) ?y170 ?r170
              case y170 => (intro u hu; go_simp; try rfl)
              simp only [Act.put, List.setIfInBounds_toArray, List.set_cons_zero, List.set_cons_succ]
              refine take_held 23 (by assumption) rfl (by kernel_rfl) (by kernel_rfl) (by kernel_rfl) (fun _ _ _ h => h) (by kernel_rfl) (v := ?v171) ?y171 ?r171
              case y171 => (intro u hu; go_simp; try rfl)
              simp only [Act.put, List.setIfInBounds_toArray, List.set_cons_zero, List.set_cons_succ]
              refine take_held 24 (by assumption) rfl (by kernel_rfl) (by kernel_rfl) (by kernel_rfl) (fun _ _ _ h => h) (by kernel_rfl) (v := ?v172) ?y172 ?r172
              case y172 => (intro u hu; go_simp; try rfl)
              simp only [Act.put, List.setIfInBounds_toArray, List.set_cons_zero, List.set_cons_succ]
              refine take_held 25 (by assumption) rfl (by kernel_rfl) (by kernel_rfl) (by kernel_rfl) (fun _ _ _ h => h) (by kernel_rfl) (v := ?v173) ?y173 ?r173
              case y173 => (intro u hu; go_simp; try rfl)
              simp only [Act.put, List.setIfInBounds_toArray, List.set_cons_zero, List.set_cons_succ]
              refine take_held 26 (by assumption) rfl (by kernel_rfl) (by kernel_rfl) (by kernel_rfl) (fun _ _ _ h => h) (by kernel_rfl) (v := ?v174) ?y174 ?r174
              case y174 => (intro u hu; have zz0 := k2 u hu; go_simp; try rfl)
              simp only [Act.put, List.setIfInBounds_toArray, List.set_cons_zero, List.set_cons_succ]
              refine take_held 27 (by assumption) rfl (by kernel_rfl) (by kernel_rfl) (by kernel_rfl) (fun _ _ _ h => h) (by kernel_rfl) (v := .bool false) ?y175 ?r175
              case y175 => (intro u hu; go_simp; try rfl)
              simp only [Act.put, List.setIfInBounds_toArray, List.set_cons_zero, List.set_cons_succ]
              refine take_held 28 (by assumption) rfl (by kernel_rfl) (by kernel_rfl) (by kernel_rfl) (fun _ _ _ h => h) (by kernel_rfl) (v := .bool false) ?y176 ?r176
              case y176 => (intro u hu; go_simp; try rfl)
              simp only [Act.put, List.setIfInBounds_toArray, List.set_cons_zero, List.set_cons_succ]
              refine take_held 29 (by assumption) rfl (by kernel_rfl) (by kernel_rfl) (by kernel_rfl) (fun _ _ _ h => h) (by kernel_rfl) (v := ?v177) ?y177 ?r177
              case y177 => (intro u hu; go_simp; try rfl)
              simp only [Act.put, List.setIfInBounds_toArray, List.set_cons_zero, List.set_cons_succ]
              refine take_held 30 (by assumption) rfl (by kernel_rfl) (by kernel_rfl) (by kernel_rfl) (fun _ _ _ h => h) (by kernel_rfl) (v := ?v178) ?y178 ?r178
              case y178 => (intro u hu; go_simp; try rfl)
              simp only [Act.put, List.setIfInBounds_toArray, List.set_cons_zero, List.set_cons_succ]
              refine take_held 31 (by assumption) rfl (by kernel_rfl) (by kernel_rfl) (by kernel_rfl) (fun _ _ _ h => h) (by kernel_rfl) (v := ?v179) ?y179 ?r179
              case y179 => (intro u hu; go_simp; try rfl)
              simp only [Act.put, List.setIfInBounds_toArray, List.set_cons_zero, List.set_cons_succ]
              refine take_held 32 (by assumption) rfl (by kernel_rfl) (by kernel_rfl) (by kernel_rfl) (fun _ _ _ h => h) (by kernel_rfl) (v := ?v180) ?y180 ?r180
              case y180 => (intro u hu; go_simp; try rfl)
              simp only [Act.put, List.setIfInBounds_toArray, List.set_cons_zero, List.set_cons_succ]
              refine take_held 33 (by assumption) rfl (by kernel_rfl) (by kernel_rfl) (by kernel_rfl) (fun _ _ _ h => h) (by kernel_rfl) (v := ?v181) ?y181 ?r181
              case y181 => (intro u hu; go_simp; try rfl)
              simp only [Act.put, List.setIfInBounds_toArray, List.set_cons_zero, List.set_cons_succ]
              refine take_held 34 (by assumption) rfl (by kernel_rfl) (by kernel_rfl) (by kernel_rfl) (fun _ _ _ h => h) (by kernel_rfl) (v := ?v182) ?y182 ?r182
              case y182 => (intro u hu; have zz0 := k2 u hu; go_simp; try rfl)
              simp only [Act.put, List.setIfInBounds_toArray, List.set_cons_zero, List.set_cons_succ]
              refine take_held 35 (by assumption) rfl (by kernel_rfl) (by kernel_rfl) (by kernel_rfl) (fun _ _ _ h => h) (by kernel_rfl) (v := .bool false) ?y183 ?r183
              case y183 => (intro u hu; go_simp; try rfl)
              simp only [Act.put, List.setIfInBounds_toArray, List.set_cons_zero, List.set_cons_succ]
              refine take_held 36 (by assumption) rfl (by kernel_rfl) (by kernel_rfl) (by kernel_rfl) (fun _ _ _ h => h) (by kernel_rfl) (v := .bool false) ?y184 ?r184
              case y184 => (intro u hu; go_simp; try rfl)
              simp only [Act.put, List.setIfInBounds_toArray, List.set_cons_zero, List.set_cons_succ]
              refine done_held (by kernel_rfl) ?_ _
              go_wp2_with fail
              go_roundw
              case measure => simp only [intOf]; omega
              case rel => exact ⟨j + 1, rfl, hjl, hbx, bcat bw.out (by rw [hIH] at hS; exact hS)⟩
    · obtain rfl : j = ws.length := by omega
      have hAll := hA.out
      rw [List.take_length] at hAll
      have HArg : Hid (badArg R ws ls.length = false) := by unfold Hid badArg; rw [hAll]; simp; have := HNg.out; omega
      have HFit : Hid (∀ c, ∀ s ∈ moreOf R ws c, Fit s) := fun c => moreOf_fit (by have := HNg.out; omega) hAll
      have HWs : Hid (∀ x ∈ ws, isThere ls.length x.c = true) := fun x hx => by
        have := List.any_eq_false.1 hAll x hx
        simp [badW] at this
        simp only [isThere, Bool.and_eq_true, decide_eq_true_eq] at this ⊢
        exact this.1.1.1
      have HB1 : Hid (Below w.heap.size w wr) := bw.out
      clear hAll hA bw
      go_wp2_with fail
      go_loopw [8] (fun s8 wr => ∃ j : Nat, s8 = .int .i64 j ∧ j ≤ ws.length ∧ Hid (∀ x ∈ ws.take j, ∀ i (hi : i < ls.length), x.c = (i : Nat) → ¬ Met ls[i] R [⟨x.f, x.t, R⟩]) ∧ Hid (Below w.heap.size w wr)) (fun s8 _ => ws.length - (intOf s8).toNat)
      case atStart => exact ⟨0, rfl, Nat.zero_le _, fun x hx => by simp at hx, HB1⟩
      case round =>
        clear HB1
        obtain ⟨j, rfl, hj, hN, bw⟩ := hrel
        rcases Nat.lt_or_ge j ws.length with hjl | hjg
        · obtain ⟨g, o, cap2, e2, _, _, _, C⟩ := (HR.out.go wnL_len bw.out).has (by omega)
          cases e2
          have c0 := C.at wnL_len j hjl 0 _ rfl
          have c1 := C.at wnL_len j hjl 1 _ rfl
          have c2 := C.at wnL_len j hjl 2 _ rfl
          rw [Nat.add_zero] at c0
          have hjl' : (j : Int) < (ws.length : Int) := by omega
          have hjs : (j : Int) + 1 ≤ 1000000000 := by omega
          have lg : g < wr.heap.size := C.lt wnL_len (by omega)
          have hIn := HWs.out ws[j] (List.getElem_mem _)
          have hMem : Hid (ws[j] ∈ ws) := List.getElem_mem _
          have hTk : Hid (ws.take (j + 1) = ws.take j ++ [ws[j]]) := List.take_succ_eq_append_getElem hjl
          obtain ⟨x, hx⟩ : ∃ x, ws[j] = x := ⟨_, rfl⟩
          rw [hx] at c0 c1 c2 hIn hMem hTk
          simp only [isThere, Bool.and_eq_true, decide_eq_true_eq] at hIn
          obtain ⟨c, hc⟩ : ∃ c : Nat, x.c = (c : Nat) := ⟨x.c.toNat, by omega⟩
          have hcn : c < ls.length := by omega
          have HXC : Hid (x.c = (c : Nat)) := hc
          rw [hc] at c0
          clear hx C hIn hc
          have Td : TAt F wr.drew b ls := (HT.out.go bw.out).go (Below.refl _ _).drew
          have hlc : (ls[c]).length ≤ 1000000000 := by have := hs _ (List.getElem_mem hcn); omega
          obtain ⟨IH, hIH⟩ : ∃ I : World → Prop, I = Below wr.heap.size wr := ⟨_, rfl⟩
          have hS : IH wr.drew := by rw [hIH]; exact (Below.refl _ _).drew
          have k0 : ∀ u, IH u → u.cell? ⟨g, o + j * 3, none⟩ = some (.int .i64 (c : Nat)) := fun u hu => by rw [hIH] at hu; exact (cell_same (hu.block g lg)).trans c0
          have k1 : ∀ u, IH u → u.cell? ⟨g, o + j * 3 + 1, none⟩ = some (.int .i64 x.f) := fun u hu => by rw [hIH] at hu; exact (cell_same (hu.block g lg)).trans c1
          have k2 : ∀ u, IH u → u.cell? ⟨g, o + j * 3 + 2, none⟩ = some (.int .i64 x.t) := fun u hu => by rw [hIH] at hu; exact (cell_same (hu.block g lg)).trans c2
          clear c0 c1 c2
          cases hmt : metB ls[c] R x.f x.t with
          | true =>
            have cT := met_call hcn Td hlc hmt
            have hMT : Hid (MetT R ws ls) := metT_of hMem.out hcn HXC.out (metB_iff.1 hmt)
            clear hmt
            go_wp2_with fail
            refine start_held (S := IH) 18 rfl (by kernel_rfl) (hS) ?_
            simp only [Array.replicate_succ, Array.replicate_zero, List.push_toArray, List.nil_append, List.cons_append]
            refine take_held 0 (by assumption) rfl (by kernel_rfl) (by kernel_rfl) (by kernel_rfl) (fun _ _ _ h => h) (by kernel_rfl) (v := ?v0) ?y0 ?r0
            case y0 => (intro u hu; go_simp; try rfl)
            simp only [Act.put, List.setIfInBounds_toArray, List.set_cons_zero, List.set_cons_succ]
            refine take_held 1 (by assumption) rfl (by kernel_rfl) (by kernel_rfl) (by kernel_rfl) (fun _ _ _ h => h) (by kernel_rfl) (v := ?v1) ?y1 ?r1
            case y1 => (intro u hu; go_simp; try rfl)
            simp only [Act.put, List.setIfInBounds_toArray, List.set_cons_zero, List.set_cons_succ]
            refine take_held 2 (by assumption) rfl (by kernel_rfl) (by kernel_rfl) (by kernel_rfl) (fun _ _ _ h => h) (by kernel_rfl) (v := ?v2) ?y2 ?r2
            case y2 => (intro u hu; go_simp; try rfl)
            simp only [Act.put, List.setIfInBounds_toArray, List.set_cons_zero, List.set_cons_succ]
            refine take_held 3 (by assumption) rfl (by kernel_rfl) (by kernel_rfl) (by kernel_rfl) (fun _ _ _ h => h) (by kernel_rfl) (v := ?v3) ?y3 ?r3
            case y3 => (intro u hu; go_simp; try rfl)
            simp only [Act.put, List.setIfInBounds_toArray, List.set_cons_zero, List.set_cons_succ]
            refine take_held 4 (by assumption) rfl (by kernel_rfl) (by kernel_rfl) (by kernel_rfl) (fun _ _ _ h => h) (by kernel_rfl) (v := ?v4) ?y4 ?r4
            case y4 => (intro u hu; go_simp; try rfl)
            simp only [Act.put, List.setIfInBounds_toArray, List.set_cons_zero, List.set_cons_succ]
            refine take_held 5 (by assumption) rfl (by kernel_rfl) (by kernel_rfl) (by kernel_rfl) (fun _ _ _ h => h) (by kernel_rfl) (v := ?v5) ?y5 ?r5
            case y5 => (intro u hu; go_simp; try rfl)
            simp only [Act.put, List.setIfInBounds_toArray, List.set_cons_zero, List.set_cons_succ]
            refine take_held 6 (by assumption) rfl (by kernel_rfl) (by kernel_rfl) (by kernel_rfl) (fun _ _ _ h => h) (by kernel_rfl) (v := ?v6) ?y6 ?r6
            case y6 => (intro u hu; have zz0 := k0 u hu; go_simp; try rfl)
            simp only [Act.put, List.setIfInBounds_toArray, List.set_cons_zero, List.set_cons_succ]
            refine take_held 7 (by assumption) rfl (by kernel_rfl) (by kernel_rfl) (by kernel_rfl) (fun _ _ _ h => h) (by kernel_rfl) (v := ?v7) ?y7 ?r7
            case y7 => (intro u hu; go_simp; try rfl)
            simp only [Act.put, List.setIfInBounds_toArray, List.set_cons_zero, List.set_cons_succ]
            refine take_held 8 (by assumption) rfl (by kernel_rfl) (by kernel_rfl) (by kernel_rfl) (fun _ _ _ h => h) (by kernel_rfl) (v := ?v8) ?y8 ?r8
            case y8 => (intro u hu; go_simp; try rfl)
            simp only [Act.put, List.setIfInBounds_toArray, List.set_cons_zero, List.set_cons_succ]
            refine take_held 9 (by assumption) rfl (by kernel_rfl) (by kernel_rfl) (by kernel_rfl) (fun _ _ _ h => h) (by kernel_rfl) (v := ?v9) ?y9 ?r9
            case y9 => (intro u hu; go_simp; try rfl)
            simp only [Act.put, List.setIfInBounds_toArray, List.set_cons_zero, List.set_cons_succ]
            refine take_held 10 (by assumption) rfl (by kernel_rfl) (by kernel_rfl) (by kernel_rfl) (fun _ _ _ h => h) (by kernel_rfl) (v := ?v10) ?y10 ?r10
            case y10 => (intro u hu; go_simp; try rfl)
            simp only [Act.put, List.setIfInBounds_toArray, List.set_cons_zero, List.set_cons_succ]
            refine take_held 11 (by assumption) rfl (by kernel_rfl) (by kernel_rfl) (by kernel_rfl) (fun _ _ _ h => h) (by kernel_rfl) (v := ?v11) ?y11 ?r11
            case y11 => (intro u hu; have zz0 := k1 u hu; go_simp; try rfl)
            simp only [Act.put, List.setIfInBounds_toArray, List.set_cons_zero, List.set_cons_succ]
            refine take_held 12 (by assumption) rfl (by kernel_rfl) (by kernel_rfl) (by kernel_rfl) (fun _ _ _ h => h) (by kernel_rfl) (v := ?v12) ?y12 ?r12
            case y12 => (intro u hu; go_simp; try rfl)
            simp only [Act.put, List.setIfInBounds_toArray, List.set_cons_zero, List.set_cons_succ]
            refine take_held 13 (by assumption) rfl (by kernel_rfl) (by kernel_rfl) (by kernel_rfl) (fun _ _ _ h => h) (by kernel_rfl) (v := ?v13) ?y13 ?r13
            case y13 => (intro u hu; go_simp; try rfl)
            simp only [Act.put, List.setIfInBounds_toArray, List.set_cons_zero, List.set_cons_succ]
            refine take_held 14 (by assumption) rfl (by kernel_rfl) (by kernel_rfl) (by kernel_rfl) (fun _ _ _ h => h) (by kernel_rfl) (v := ?v14) ?y14 ?r14
            case y14 => (intro u hu; go_simp; try rfl)
            simp only [Act.put, List.setIfInBounds_toArray, List.set_cons_zero, List.set_cons_succ]
            refine take_held 15 (by assumption) rfl (by kernel_rfl) (by kernel_rfl) (by kernel_rfl) (fun _ _ _ h => h) (by kernel_rfl) (v := ?v15) ?y15 ?r15
            case y15 => (intro u hu; go_simp; try rfl)
            simp only [Act.put, List.setIfInBounds_toArray, List.set_cons_zero, List.set_cons_succ]
            refine take_held 16 (by assumption) rfl (by kernel_rfl) (by kernel_rfl) (by kernel_rfl) (fun _ _ _ h => h) (by kernel_rfl) (v := ?v16) ?y16 ?r16
            case y16 => (intro u hu; have zz0 := k2 u hu; go_simp; try rfl)
            simp only [Act.put, List.setIfInBounds_toArray, List.set_cons_zero, List.set_cons_succ]
            refine wpAnyH_ready (rs := [17]) (by kernel_rfl) (by simp) (AllReadyH.cons ((nth_eq _ 17).trans rfl) ?_ AllReadyH.nil)
            intro K' hK
            refine call_in hK (by kernel_rfl) 57 #[.pointer (some ⟨b, 0, none⟩), .int .i64 R, .int .i64 (c : Nat), .int .i64 x.f, .int .i64 x.t] (by go_simp) _ (cT) ?_
            rintro v w6 ⟨rfl, rfl⟩
            refine ⟨hS, ?_⟩
            simp only [Act.put, List.setIfInBounds_toArray, List.set_cons_zero, List.set_cons_succ]
            refine done_held (by kernel_rfl) ?_ _
            go_wp2
            go_ret
            have bz := bcat bw.out (show Below wr.heap.size wr wr.drew by rw [hIH] at hS; exact hS)
            exact ⟨18, ls, F, rfl, HT.out.go bz, Tn.below bz, fun q => (by rw [HArg.out] at q; cases q), fun _ _ => ⟨rfl, rfl⟩, fun _ q => absurd hMT.out q⟩
          | false =>
            have cT := met_call hcn Td hlc hmt
            have hNn : Hid (∀ y ∈ ws.take (j + 1), ∀ i (hi : i < ls.length), y.c = (i : Nat) → ¬ Met ls[i] R [⟨y.f, y.t, R⟩]) := fun y hy i hi hyc q => by
              rw [hTk.out] at hy
              rcases List.mem_append.1 hy with z | z
              · exact hN.out y z i hi hyc q
              · rw [List.mem_singleton] at z
                subst z
                have : i = c := by have := HXC.out; omega
                subst this
                rw [metB_iff.2 q] at hmt
                cases hmt
            clear hmt
            go_wp2_with fail
            refine start_held (S := IH) 18 rfl (by kernel_rfl) (hS) ?_
            simp only [Array.replicate_succ, Array.replicate_zero, List.push_toArray, List.nil_append, List.cons_append]
            refine take_held 0 (by assumption) rfl (by kernel_rfl) (by kernel_rfl) (by kernel_rfl) (fun _ _ _ h => h) (by kernel_rfl) (v := ?v17) ?y17 ?r17
            case y17 => (intro u hu; go_simp; try rfl)
            simp only [Act.put, List.setIfInBounds_toArray, List.set_cons_zero, List.set_cons_succ]
            refine take_held 1 (by assumption) rfl (by kernel_rfl) (by kernel_rfl) (by kernel_rfl) (fun _ _ _ h => h) (by kernel_rfl) (v := ?v18) ?y18 ?r18
            case y18 => (intro u hu; go_simp; try rfl)
            simp only [Act.put, List.setIfInBounds_toArray, List.set_cons_zero, List.set_cons_succ]
            refine take_held 2 (by assumption) rfl (by kernel_rfl) (by kernel_rfl) (by kernel_rfl) (fun _ _ _ h => h) (by kernel_rfl) (v := ?v19) ?y19 ?r19
            case y19 => (intro u hu; go_simp; try rfl)
            simp only [Act.put, List.setIfInBounds_toArray, List.set_cons_zero, List.set_cons_succ]
            refine take_held 3 (by assumption) rfl (by kernel_rfl) (by kernel_rfl) (by kernel_rfl) (fun _ _ _ h => h) (by kernel_rfl) (v := ?v20) ?y20 ?r20
            case y20 => (intro u hu; go_simp; try rfl)
            simp only [Act.put, List.setIfInBounds_toArray, List.set_cons_zero, List.set_cons_succ]
            refine take_held 4 (by assumption) rfl (by kernel_rfl) (by kernel_rfl) (by kernel_rfl) (fun _ _ _ h => h) (by kernel_rfl) (v := ?v21) ?y21 ?r21
            case y21 => (intro u hu; go_simp; try rfl)
            simp only [Act.put, List.setIfInBounds_toArray, List.set_cons_zero, List.set_cons_succ]
            refine take_held 5 (by assumption) rfl (by kernel_rfl) (by kernel_rfl) (by kernel_rfl) (fun _ _ _ h => h) (by kernel_rfl) (v := ?v22) ?y22 ?r22
            case y22 => (intro u hu; go_simp; try rfl)
            simp only [Act.put, List.setIfInBounds_toArray, List.set_cons_zero, List.set_cons_succ]
            refine take_held 6 (by assumption) rfl (by kernel_rfl) (by kernel_rfl) (by kernel_rfl) (fun _ _ _ h => h) (by kernel_rfl) (v := ?v23) ?y23 ?r23
            case y23 => (intro u hu; have zz0 := k0 u hu; go_simp; try rfl)
            simp only [Act.put, List.setIfInBounds_toArray, List.set_cons_zero, List.set_cons_succ]
            refine take_held 7 (by assumption) rfl (by kernel_rfl) (by kernel_rfl) (by kernel_rfl) (fun _ _ _ h => h) (by kernel_rfl) (v := ?v24) ?y24 ?r24
            case y24 => (intro u hu; go_simp; try rfl)
            simp only [Act.put, List.setIfInBounds_toArray, List.set_cons_zero, List.set_cons_succ]
            refine take_held 8 (by assumption) rfl (by kernel_rfl) (by kernel_rfl) (by kernel_rfl) (fun _ _ _ h => h) (by kernel_rfl) (v := ?v25) ?y25 ?r25
            case y25 => (intro u hu; go_simp; try rfl)
            simp only [Act.put, List.setIfInBounds_toArray, List.set_cons_zero, List.set_cons_succ]
            refine take_held 9 (by assumption) rfl (by kernel_rfl) (by kernel_rfl) (by kernel_rfl) (fun _ _ _ h => h) (by kernel_rfl) (v := ?v26) ?y26 ?r26
            case y26 => (intro u hu; go_simp; try rfl)
            simp only [Act.put, List.setIfInBounds_toArray, List.set_cons_zero, List.set_cons_succ]
            refine take_held 10 (by assumption) rfl (by kernel_rfl) (by kernel_rfl) (by kernel_rfl) (fun _ _ _ h => h) (by kernel_rfl) (v := ?v27) ?y27 ?r27
            case y27 => (intro u hu; go_simp; try rfl)
            simp only [Act.put, List.setIfInBounds_toArray, List.set_cons_zero, List.set_cons_succ]
            refine take_held 11 (by assumption) rfl (by kernel_rfl) (by kernel_rfl) (by kernel_rfl) (fun _ _ _ h => h) (by kernel_rfl) (v := ?v28) ?y28 ?r28
            case y28 => (intro u hu; have zz0 := k1 u hu; go_simp; try rfl)
            simp only [Act.put, List.setIfInBounds_toArray, List.set_cons_zero, List.set_cons_succ]
            refine take_held 12 (by assumption) rfl (by kernel_rfl) (by kernel_rfl) (by kernel_rfl) (fun _ _ _ h => h) (by kernel_rfl) (v := ?v29) ?y29 ?r29
            case y29 => (intro u hu; go_simp; try rfl)
            simp only [Act.put, List.setIfInBounds_toArray, List.set_cons_zero, List.set_cons_succ]
            refine take_held 13 (by assumption) rfl (by kernel_rfl) (by kernel_rfl) (by kernel_rfl) (fun _ _ _ h => h) (by kernel_rfl) (v := ?v30) ?y30 ?r30
            case y30 => (intro u hu; go_simp; try rfl)
            simp only [Act.put, List.setIfInBounds_toArray, List.set_cons_zero, List.set_cons_succ]
            refine take_held 14 (by assumption) rfl (by kernel_rfl) (by kernel_rfl) (by kernel_rfl) (fun _ _ _ h => h) (by kernel_rfl) (v := ?v31) ?y31 ?r31
            case y31 => (intro u hu; go_simp; try rfl)
            simp only [Act.put, List.setIfInBounds_toArray, List.set_cons_zero, List.set_cons_succ]
            refine take_held 15 (by assumption) rfl (by kernel_rfl) (by kernel_rfl) (by kernel_rfl) (fun _ _ _ h => h) (by kernel_rfl) (v := ?v32) ?y32 ?r32
            case y32 => (intro u hu; go_simp; try rfl)
            simp only [Act.put, List.setIfInBounds_toArray, List.set_cons_zero, List.set_cons_succ]
            refine take_held 16 (by assumption) rfl (by kernel_rfl) (by kernel_rfl) (by kernel_rfl) (fun _ _ _ h => h) (by kernel_rfl) (v := ?v33) ?y33 ?r33
            case y33 => (intro u hu; have zz0 := k2 u hu; go_simp; try rfl)
            simp only [Act.put, List.setIfInBounds_toArray, List.set_cons_zero, List.set_cons_succ]
            refine wpAnyH_ready (rs := [17]) (by kernel_rfl) (by simp) (AllReadyH.cons ((nth_eq _ 17).trans rfl) ?_ AllReadyH.nil)
            intro K' hK
            refine call_in hK (by kernel_rfl) 57 #[.pointer (some ⟨b, 0, none⟩), .int .i64 R, .int .i64 (c : Nat), .int .i64 x.f, .int .i64 x.t] (by go_simp) _ (cT) ?_
            rintro v w6 ⟨rfl, rfl⟩
            refine ⟨hS, ?_⟩
            simp only [Act.put, List.setIfInBounds_toArray, List.set_cons_zero, List.set_cons_succ]
            refine done_held (by kernel_rfl) ?_ _
            go_wp2_with fail
            go_roundw
            case measure => simp only [intOf]; omega
            case rel => exact ⟨j + 1, rfl, hjl, hNn, bcat bw.out (by rw [hIH] at hS; exact hS)⟩
        · obtain rfl : j = ws.length := by omega
          have hNo := hN.out
          rw [List.take_length] at hNo
          have HNM : Hid (¬ MetT R ws ls) := fun q => by
            obtain ⟨x, hx, i, hi, hc, hm⟩ := metT_one q
            exact hNo x hx i hi hc hm
          have HNo : Hid (∀ x ∈ ws, ∀ i (hi : i < ls.length), x.c = (i : Nat) → ¬ Met ls[i] R [⟨x.f, x.t, R⟩]) := hNo
          have HB2 : Hid (Below w.heap.size w wr) := bw.out
          clear hNo hN bw
          go_wp2_with fail
          go_loopw [9] (fun s9 wr => ∃ (j : Nat) (F' : Nat → Prop) (l2 : List (List Sl)), s9 = .int .i64 j ∧ j ≤ ws.length ∧ Hid (TAt F' wr b l2) ∧ Hid (Tn F F' w wr) ∧ Hid (l2.length = ls.length) ∧ Hid (∀ i (h1 : i < ls.length) (h2 : i < l2.length), With ls[i] (moreOf R (ws.take j) (i : Nat)) l2[i])) (fun s9 _ => ws.length - (intOf s9).toNat)
          case atStart => exact ⟨0, F, ls, rfl, Nat.zero_le _, HT.out.go HB2.out, Tn.below HB2.out, rfl, fun i h1 _ => by rw [List.take_zero]; exact With.none (hl _ (List.getElem_mem h1))⟩
          case round =>
            clear HB2
            obtain ⟨j, F', l2, rfl, hj, HT2, tw, hl2, HW⟩ := hrel
            have RWr := HR.out.old wnL_len
            rcases Nat.lt_or_ge j ws.length with hjl | hjg
            · obtain ⟨g, o, cap2, e2, _, _, hgg, C⟩ := (RWr.same (w' := wr) fun k hk => tw.out.block k hk.2 (hG k hk.1)).has (by omega)
              cases e2
              have c0 := C.at wnL_len j hjl 0 _ rfl
              have c1 := C.at wnL_len j hjl 1 _ rfl
              have c2 := C.at wnL_len j hjl 2 _ rfl
              rw [Nat.add_zero] at c0
              have hjl' : (j : Int) < (ws.length : Int) := by omega
              have hjs : (j : Int) + 1 ≤ 1000000000 := by omega
              have hIn := HWs.out ws[j] (List.getElem_mem _)
              have hMem : ws[j] ∈ ws := List.getElem_mem _
              have hTk : Hid (ws.take (j + 1) = ws.take j ++ [ws[j]]) := List.take_succ_eq_append_getElem hjl
              obtain ⟨x, hx⟩ : ∃ x, ws[j] = x := ⟨_, rfl⟩
              rw [hx] at c0 c1 c2 hIn hMem hTk
              simp only [isThere, Bool.and_eq_true, decide_eq_true_eq] at hIn
              obtain ⟨c, hc⟩ : ∃ c : Nat, x.c = (c : Nat) := ⟨x.c.toNat, by omega⟩
              have hcn : c < ls.length := by omega
              have hcn2 : c < l2.length := by rw [hl2.out]; exact hcn
              have hW0 := HW.out c hcn hcn2
              have hfit : Fit ⟨x.f, x.t, R⟩ := HFit.out x.c _ (in_moreOf hMem)
              have hnm : ¬ Met l2[c] R [⟨x.f, x.t, R⟩] := fun q => HNo.out x hMem c hcn hc (met_back hW0 moreOf_r hfit.2.1 q)
              have hlen : (l2[c]).length ≤ 999999999 := by have := hW0.len; have := hs _ (List.getElem_mem hcn); have := moreOf_len R (ws.take j) (c : Nat); rw [List.length_take] at this; omega
              have cT := put_call hcn2 (HT2.out.go (Below.refl _ _).drew) hW0.ok hfit hnm hlen
              have HXC : Hid (x.c = (c : Nat)) := hc
              rw [hc] at c0
              have lg : g < wr.heap.size := C.lt wnL_len (by omega)
              have hgF : ¬ F' g := fun q => by
                rcases tw.out.own g q with z | z
                · exact hG g hgg.1 z
                · have := hgg.2; omega
              obtain ⟨SW, hSW⟩ : ∃ S : World → Prop, S = fun u => u.heap[g]? = wr.heap[g]? := ⟨_, rfl⟩
              have hS : SW wr.drew := by rw [hSW]; rfl
              have k0 : ∀ u, SW u → u.cell? ⟨g, o + j * 3, none⟩ = some (.int .i64 (c : Nat)) := fun u hu => by rw [hSW] at hu; exact (cell_same hu).trans c0
              have k1 : ∀ u, SW u → u.cell? ⟨g, o + j * 3 + 1, none⟩ = some (.int .i64 x.f) := fun u hu => by rw [hSW] at hu; exact (cell_same hu).trans c1
              have k2 : ∀ u, SW u → u.cell? ⟨g, o + j * 3 + 2, none⟩ = some (.int .i64 x.t) := fun u hu => by rw [hSW] at hu; exact (cell_same hu).trans c2
              have HW0 : Hid (With ls[c] (moreOf R (ws.take j) (c : Nat)) l2[c]) := hW0
              clear c0 c1 c2 C hIn hc hfit hnm hlen hW0 RWr
              go_wp2_with fail
              refine start_held (S := SW) 18 rfl (by kernel_rfl) (hS) ?_
              simp only [Array.replicate_succ, Array.replicate_zero, List.push_toArray, List.nil_append, List.cons_append]
              refine take_held 0 (by assumption) rfl (by kernel_rfl) (by kernel_rfl) (by kernel_rfl) (fun _ _ _ h => h) (by kernel_rfl) (v := ?v34) ?y34 ?r34
              case y34 => (intro u hu; go_simp; try rfl)
              simp only [Act.put, List.setIfInBounds_toArray, List.set_cons_zero, List.set_cons_succ]
              refine take_held 1 (by assumption) rfl (by kernel_rfl) (by kernel_rfl) (by kernel_rfl) (fun _ _ _ h => h) (by kernel_rfl) (v := ?v35) ?y35 ?r35
              case y35 => (intro u hu; go_simp; try rfl)
              simp only [Act.put, List.setIfInBounds_toArray, List.set_cons_zero, List.set_cons_succ]
              refine take_held 2 (by assumption) rfl (by kernel_rfl) (by kernel_rfl) (by kernel_rfl) (fun _ _ _ h => h) (by kernel_rfl) (v := ?v36) ?y36 ?r36
              case y36 => (intro u hu; go_simp; try rfl)
              simp only [Act.put, List.setIfInBounds_toArray, List.set_cons_zero, List.set_cons_succ]
              refine take_held 3 (by assumption) rfl (by kernel_rfl) (by kernel_rfl) (by kernel_rfl) (fun _ _ _ h => h) (by kernel_rfl) (v := ?v37) ?y37 ?r37
              case y37 => (intro u hu; go_simp; try rfl)
              simp only [Act.put, List.setIfInBounds_toArray, List.set_cons_zero, List.set_cons_succ]
              refine take_held 4 (by assumption) rfl (by kernel_rfl) (by kernel_rfl) (by kernel_rfl) (fun _ _ _ h => h) (by kernel_rfl) (v := ?v38) ?y38 ?r38
              case y38 => (intro u hu; go_simp; try rfl)
              simp only [Act.put, List.setIfInBounds_toArray, List.set_cons_zero, List.set_cons_succ]
              refine take_held 5 (by assumption) rfl (by kernel_rfl) (by kernel_rfl) (by kernel_rfl) (fun _ _ _ h => h) (by kernel_rfl) (v := ?v39) ?y39 ?r39
              case y39 => (intro u hu; go_simp; try rfl)
              simp only [Act.put, List.setIfInBounds_toArray, List.set_cons_zero, List.set_cons_succ]
              refine take_held 6 (by assumption) rfl (by kernel_rfl) (by kernel_rfl) (by kernel_rfl) (fun _ _ _ h => h) (by kernel_rfl) (v := ?v40) ?y40 ?r40
              case y40 => (intro u hu; have zz0 := k0 u hu; go_simp; try rfl)
              simp only [Act.put, List.setIfInBounds_toArray, List.set_cons_zero, List.set_cons_succ]
              refine take_held 7 (by assumption) rfl (by kernel_rfl) (by kernel_rfl) (by kernel_rfl) (fun _ _ _ h => h) (by kernel_rfl) (v := ?v41) ?y41 ?r41
              case y41 => (intro u hu; go_simp; try rfl)
              simp only [Act.put, List.setIfInBounds_toArray, List.set_cons_zero, List.set_cons_succ]
              refine take_held 8 (by assumption) rfl (by kernel_rfl) (by kernel_rfl) (by kernel_rfl) (fun _ _ _ h => h) (by kernel_rfl) (v := ?v42) ?y42 ?r42
              case y42 => (intro u hu; go_simp; try rfl)
              simp only [Act.put, List.setIfInBounds_toArray, List.set_cons_zero, List.set_cons_succ]
              refine take_held 9 (by assumption) rfl (by kernel_rfl) (by kernel_rfl) (by kernel_rfl) (fun _ _ _ h => h) (by kernel_rfl) (v := ?v43) ?y43 ?r43
              case y43 => (intro u hu; go_simp; try rfl)
              simp only [Act.put, List.setIfInBounds_toArray, List.set_cons_zero, List.set_cons_succ]
              refine take_held 10 (by assumption) rfl (by kernel_rfl) (by kernel_rfl) (by kernel_rfl) (fun _ _ _ h => h) (by kernel_rfl) (v := ?v44) ?y44 ?r44
              case y44 => (intro u hu; go_simp; try rfl)
              simp only [Act.put, List.setIfInBounds_toArray, List.set_cons_zero, List.set_cons_succ]
              refine take_held 11 (by assumption) rfl (by kernel_rfl) (by kernel_rfl) (by kernel_rfl) (fun _ _ _ h => h) (by kernel_rfl) (v := ?v45) ?y45 ?r45
              case y45 => (intro u hu; have zz0 := k1 u hu; go_simp; try rfl)
              simp only [Act.put, List.setIfInBounds_toArray, List.set_cons_zero, List.set_cons_succ]
              refine take_held 12 (by assumption) rfl (by kernel_rfl) (by kernel_rfl) (by kernel_rfl) (fun _ _ _ h => h) (by kernel_rfl) (v := ?v46) ?y46 ?r46
              case y46 => (intro u hu; go_simp; try rfl)
              simp only [Act.put, List.setIfInBounds_toArray, List.set_cons_zero, List.set_cons_succ]
              refine take_held 13 (by assumption) rfl (by kernel_rfl) (by kernel_rfl) (by kernel_rfl) (fun _ _ _ h => h) (by kernel_rfl) (v := ?v47) ?y47 ?r47
              case y47 => (intro u hu; go_simp; try rfl)
              simp only [Act.put, List.setIfInBounds_toArray, List.set_cons_zero, List.set_cons_succ]
              refine take_held 14 (by assumption) rfl (by kernel_rfl) (by kernel_rfl) (by kernel_rfl) (fun _ _ _ h => h) (by kernel_rfl) (v := ?v48) ?y48 ?r48
              case y48 => (intro u hu; go_simp; try rfl)
              simp only [Act.put, List.setIfInBounds_toArray, List.set_cons_zero, List.set_cons_succ]
              refine take_held 15 (by assumption) rfl (by kernel_rfl) (by kernel_rfl) (by kernel_rfl) (fun _ _ _ h => h) (by kernel_rfl) (v := ?v49) ?y49 ?r49
              case y49 => (intro u hu; go_simp; try rfl)
              simp only [Act.put, List.setIfInBounds_toArray, List.set_cons_zero, List.set_cons_succ]
              refine take_held 16 (by assumption) rfl (by kernel_rfl) (by kernel_rfl) (by kernel_rfl) (fun _ _ _ h => h) (by kernel_rfl) (v := ?v50) ?y50 ?r50
              case y50 => (intro u hu; have zz0 := k2 u hu; go_simp; try rfl)
              simp only [Act.put, List.setIfInBounds_toArray, List.set_cons_zero, List.set_cons_succ]
              refine wpAnyH_ready (rs := [17]) (by kernel_rfl) (by simp) (AllReadyH.cons ((nth_eq _ 17).trans rfl) ?_ AllReadyH.nil)
              intro K' hK
              refine call_in hK (by kernel_rfl) 58 #[.pointer (some ⟨b, 0, none⟩), .int .i64 R, .int .i64 (c : Nat), .int .i64 x.f, .int .i64 x.t] (by go_simp) _ (cT) ?_
              rintro v w7 ⟨rfl, F7, l7, T7, t7, W7⟩
              have hS7 : SW w7 := by rw [hSW]; exact t7.block g lg hgF
              refine ⟨hS7, ?_⟩
              simp only [Act.put, List.setIfInBounds_toArray, List.set_cons_zero, List.set_cons_succ]
              refine done_held (by kernel_rfl) ?_ _
              go_wp2_with fail
              go_roundw
              case measure => simp only [intOf]; omega
              case rel =>
                refine ⟨j + 1, F7, _, rfl, hjl, T7, tw.out.trans ((Tn.below (Below.refl _ _).drew).trans t7), by unfold Hid; rw [List.length_set]; exact hl2.out, fun i h1 h2 => ?_⟩
                rw [List.length_set] at h2
                rw [hTk.out, moreOf_snoc, HXC.out]
                by_cases e : c = i
                · subst e
                  rw [List.getElem_set_self, if_pos rfl]
                  exact HW0.out.more W7
                · rw [List.getElem_set_ne e, if_neg (by omega), List.append_nil]
                  exact HW.out i h1 h2
            · obtain rfl : j = ws.length := by omega
              have HW9 := HW.out
              rw [List.take_length] at HW9
              have HCR : Hid (ClaimR R ws ls 0 l2) := ⟨fun q => (by rw [HArg.out] at q; cases q), fun _ q => absurd q HNM.out, fun _ _ => ⟨rfl, hl2.out, fun i h1 h2 => HW9 i h1 h2⟩⟩
              clear HW9
              go_wp2
              go_ret
              exact ⟨0, l2, F', rfl, HT2.out, tw.out, HCR.out⟩
end Go.Proofs.Ytddkgkafgjdheaa.Rs
