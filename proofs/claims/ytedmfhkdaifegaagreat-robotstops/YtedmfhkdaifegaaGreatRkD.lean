/-
  The chapter's own answers: the next speed, the profile, the place, the speed, the stop.
  The chapter's own answers, further: how many ticks, the place, the speed, the stop.
  The chapter's own answer to how a run ends that is stopped.
-/
import Derived.Test.YtedmfhkdaifegaaGreatRkC
namespace Go.Proofs.YtedmfhkdaifegaaGreat.Kin
set_option linter.unusedVariables false
set_option linter.unusedSimpArgs false
open Go Go.RowKit Go.Shelf Go.Proofs
attribute [local go_sem] Oper.semAt_some

set_option maxHeartbeats 2000000 in
theorem refnext_any (u a v r s f : Nat) (w : World) (ha : 1 ≤ a) (ha2 : a ≤ 1000) (hr : 1 ≤ r) (hr2 : r ≤ 2000000) (hs2 : s ≤ 1000) (hf : 1 ≤ f) (hf2 : f ≤ 1000) :
    Calls Tryz.prog 97 #[.agg #[.int .i64 u, .int .i64 a, .int .i64 v], .int .i64 r, .int .i64 s, .int .i64 f] w fun e w' => e = .returned (.int .i64 (nxt a r (min (s + a) f) : Nat)) ∧ Below w.heap.size w w' := by
  have cB := fun (x : Nat) (hx : x ≤ 1000) (w1 : World) => refbrake_any u a v x w1 ha ha2 hx
  obtain ⟨w2, hw2⟩ : ∃ w2, w.alloc (.cells #[.int .i64 u, .int .i64 a, .int .i64 v] 99) = w2 := ⟨_, rfl⟩
  have bb : Below w.heap.size w w2 := by rw [← hw2]; exact (Below.refl _ _).alloc (Nat.le_refl _) _
  have s2 : w2.heap.size = w.heap.size + 1 := by rw [← hw2]; simp
  have hC : w2.heap[w.heap.size]? = some (.cells #[.int .i64 u, .int .i64 a, .int .i64 v] 99 (0, 0)) := by rw [← hw2]; exact World.alloc_heap_new _ _
  have k1 : w2.cell? ⟨w.heap.size, 1, none⟩ = some (.int .i64 a) := cell_of hC 1
  by_cases h1 : (f : Int) < (s : Int) + a
  · by_cases h2 : (r : Int) < f
    · go_enter Tryz.func97, Tryz.ntmps97
      go_wp2
      try rw [hw2]
      clear hw2
      go_loopw [9] (fun q wr => ∃ x : Nat, 1 ≤ x ∧ x ≤ min (min (s + a) f) r ∧ Hid (down a r x = nxt a r (min (s + a) f)) ∧ q = .int .i64 x ∧ Below (w.heap.size + 1) w2 wr) (fun q wr => (intOf q).toNat)
      case atStart => exact ⟨min (min (s + a) f) r, by omega, Nat.le_refl _, rfl, congrArg (Value.int IntKind.i64) (by omega), Below.refl _ _⟩
      case round =>
        obtain ⟨x, hx1, hx2, hd, rfl, hb⟩ := hrel
        have cB1 := cB x (by omega) wr
        have hbb : brk a x ≤ 1000000 := by have := brk_bound ha (show x ≤ 1000 by omega); omega
        have c0 : wr.cell? ⟨w.heap.size, 0, none⟩ = some (.int .i64 u) := (hb.cell (p := ⟨w.heap.size, 0, none⟩) (by show w.heap.size < _; omega)).trans (cell_of hC 0)
        have c1 : wr.cell? ⟨w.heap.size, 1, none⟩ = some (.int .i64 a) := (hb.cell (p := ⟨w.heap.size, 1, none⟩) (by show w.heap.size < _; omega)).trans (cell_of hC 1)
        have c2 : wr.cell? ⟨w.heap.size, 2, none⟩ = some (.int .i64 v) := (hb.cell (p := ⟨w.heap.size, 2, none⟩) (by show w.heap.size < _; omega)).trans (cell_of hC 2)
        have zs := hb.size
        clear cB
        by_cases h1 : x = 1
        · subst h1
          have HD : Hid (down a r 1 = 1) := down_yes (by rw [brk_small (by omega)]; omega)
          go_wp2_with (go_at_call 104; refine cB1.mono ?_; rintro e w' ⟨rfl, hb2⟩)
          go_ret
          exact ⟨ret_int (by rw [← hd.out, HD.out]), bb.trans (hb.mono (by omega))⟩
        · have hx3 : (1 : Int) < x := by omega
          by_cases hlt : r - x < brk a x
          · have hz : ((r : Int) - x < brk a x) := by omega
            have HD : Hid (down a r x = down a r (x - 1)) := by
              have e2 : x = (x - 1) + 1 := by omega
              have := down_no (a := a) (left := r) (q := x - 1) (by rw [← e2]; exact hlt)
              rw [← e2] at this
              exact this
            go_wp2_with (go_at_call 104; refine cB1.mono ?_; rintro e w' ⟨rfl, hb2⟩)
            go_roundw
            case rel => exact ⟨x - 1, by omega, by omega, by unfold Hid; rw [← HD.out]; exact hd.out, by go_num, hb.trans (hb2.mono (by omega))⟩
            case measure => simp [intOf]; omega
          · have hz : ¬ ((r : Int) - x < brk a x) := by omega
            have HD : Hid (down a r x = x) := down_yes (by omega)
            go_wp2_with (go_at_call 104; refine cB1.mono ?_; rintro e w' ⟨rfl, hb2⟩)
            go_ret
            exact ⟨ret_int (by rw [← hd.out, HD.out]), bb.trans ((hb.trans (hb2.mono (by omega))).mono (by omega))⟩
    · go_enter Tryz.func97, Tryz.ntmps97
      go_wp2
      try rw [hw2]
      clear hw2
      go_loopw [9] (fun q wr => ∃ x : Nat, 1 ≤ x ∧ x ≤ min (min (s + a) f) r ∧ Hid (down a r x = nxt a r (min (s + a) f)) ∧ q = .int .i64 x ∧ Below (w.heap.size + 1) w2 wr) (fun q wr => (intOf q).toNat)
      case atStart => exact ⟨min (min (s + a) f) r, by omega, Nat.le_refl _, rfl, congrArg (Value.int IntKind.i64) (by omega), Below.refl _ _⟩
      case round =>
        obtain ⟨x, hx1, hx2, hd, rfl, hb⟩ := hrel
        have cB1 := cB x (by omega) wr
        have hbb : brk a x ≤ 1000000 := by have := brk_bound ha (show x ≤ 1000 by omega); omega
        have c0 : wr.cell? ⟨w.heap.size, 0, none⟩ = some (.int .i64 u) := (hb.cell (p := ⟨w.heap.size, 0, none⟩) (by show w.heap.size < _; omega)).trans (cell_of hC 0)
        have c1 : wr.cell? ⟨w.heap.size, 1, none⟩ = some (.int .i64 a) := (hb.cell (p := ⟨w.heap.size, 1, none⟩) (by show w.heap.size < _; omega)).trans (cell_of hC 1)
        have c2 : wr.cell? ⟨w.heap.size, 2, none⟩ = some (.int .i64 v) := (hb.cell (p := ⟨w.heap.size, 2, none⟩) (by show w.heap.size < _; omega)).trans (cell_of hC 2)
        have zs := hb.size
        clear cB
        by_cases h1 : x = 1
        · subst h1
          have HD : Hid (down a r 1 = 1) := down_yes (by rw [brk_small (by omega)]; omega)
          go_wp2_with (go_at_call 104; refine cB1.mono ?_; rintro e w' ⟨rfl, hb2⟩)
          go_ret
          exact ⟨ret_int (by rw [← hd.out, HD.out]), bb.trans (hb.mono (by omega))⟩
        · have hx3 : (1 : Int) < x := by omega
          by_cases hlt : r - x < brk a x
          · have hz : ((r : Int) - x < brk a x) := by omega
            have HD : Hid (down a r x = down a r (x - 1)) := by
              have e2 : x = (x - 1) + 1 := by omega
              have := down_no (a := a) (left := r) (q := x - 1) (by rw [← e2]; exact hlt)
              rw [← e2] at this
              exact this
            go_wp2_with (go_at_call 104; refine cB1.mono ?_; rintro e w' ⟨rfl, hb2⟩)
            go_roundw
            case rel => exact ⟨x - 1, by omega, by omega, by unfold Hid; rw [← HD.out]; exact hd.out, by go_num, hb.trans (hb2.mono (by omega))⟩
            case measure => simp [intOf]; omega
          · have hz : ¬ ((r : Int) - x < brk a x) := by omega
            have HD : Hid (down a r x = x) := down_yes (by omega)
            go_wp2_with (go_at_call 104; refine cB1.mono ?_; rintro e w' ⟨rfl, hb2⟩)
            go_ret
            exact ⟨ret_int (by rw [← hd.out, HD.out]), bb.trans ((hb.trans (hb2.mono (by omega))).mono (by omega))⟩
  · by_cases h2 : (r : Int) < (s : Int) + a
    · go_enter Tryz.func97, Tryz.ntmps97
      go_wp2
      try rw [hw2]
      clear hw2
      go_loopw [9] (fun q wr => ∃ x : Nat, 1 ≤ x ∧ x ≤ min (min (s + a) f) r ∧ Hid (down a r x = nxt a r (min (s + a) f)) ∧ q = .int .i64 x ∧ Below (w.heap.size + 1) w2 wr) (fun q wr => (intOf q).toNat)
      case atStart => exact ⟨min (min (s + a) f) r, by omega, Nat.le_refl _, rfl, congrArg (Value.int IntKind.i64) (by omega), Below.refl _ _⟩
      case round =>
        obtain ⟨x, hx1, hx2, hd, rfl, hb⟩ := hrel
        have cB1 := cB x (by omega) wr
        have hbb : brk a x ≤ 1000000 := by have := brk_bound ha (show x ≤ 1000 by omega); omega
        have c0 : wr.cell? ⟨w.heap.size, 0, none⟩ = some (.int .i64 u) := (hb.cell (p := ⟨w.heap.size, 0, none⟩) (by show w.heap.size < _; omega)).trans (cell_of hC 0)
        have c1 : wr.cell? ⟨w.heap.size, 1, none⟩ = some (.int .i64 a) := (hb.cell (p := ⟨w.heap.size, 1, none⟩) (by show w.heap.size < _; omega)).trans (cell_of hC 1)
        have c2 : wr.cell? ⟨w.heap.size, 2, none⟩ = some (.int .i64 v) := (hb.cell (p := ⟨w.heap.size, 2, none⟩) (by show w.heap.size < _; omega)).trans (cell_of hC 2)
        have zs := hb.size
        clear cB
        by_cases h1 : x = 1
        · subst h1
          have HD : Hid (down a r 1 = 1) := down_yes (by rw [brk_small (by omega)]; omega)
          go_wp2_with (go_at_call 104; refine cB1.mono ?_; rintro e w' ⟨rfl, hb2⟩)
          go_ret
          exact ⟨ret_int (by rw [← hd.out, HD.out]), bb.trans (hb.mono (by omega))⟩
        · have hx3 : (1 : Int) < x := by omega
          by_cases hlt : r - x < brk a x
          · have hz : ((r : Int) - x < brk a x) := by omega
            have HD : Hid (down a r x = down a r (x - 1)) := by
              have e2 : x = (x - 1) + 1 := by omega
              have := down_no (a := a) (left := r) (q := x - 1) (by rw [← e2]; exact hlt)
              rw [← e2] at this
              exact this
            go_wp2_with (go_at_call 104; refine cB1.mono ?_; rintro e w' ⟨rfl, hb2⟩)
            go_roundw
            case rel => exact ⟨x - 1, by omega, by omega, by unfold Hid; rw [← HD.out]; exact hd.out, by go_num, hb.trans (hb2.mono (by omega))⟩
            case measure => simp [intOf]; omega
          · have hz : ¬ ((r : Int) - x < brk a x) := by omega
            have HD : Hid (down a r x = x) := down_yes (by omega)
            go_wp2_with (go_at_call 104; refine cB1.mono ?_; rintro e w' ⟨rfl, hb2⟩)
            go_ret
            exact ⟨ret_int (by rw [← hd.out, HD.out]), bb.trans ((hb.trans (hb2.mono (by omega))).mono (by omega))⟩
    · go_enter Tryz.func97, Tryz.ntmps97
      go_wp2
      try rw [hw2]
      clear hw2
      go_loopw [9] (fun q wr => ∃ x : Nat, 1 ≤ x ∧ x ≤ min (min (s + a) f) r ∧ Hid (down a r x = nxt a r (min (s + a) f)) ∧ q = .int .i64 x ∧ Below (w.heap.size + 1) w2 wr) (fun q wr => (intOf q).toNat)
      case atStart => exact ⟨min (min (s + a) f) r, by omega, Nat.le_refl _, rfl, congrArg (Value.int IntKind.i64) (by omega), Below.refl _ _⟩
      case round =>
        obtain ⟨x, hx1, hx2, hd, rfl, hb⟩ := hrel
        have cB1 := cB x (by omega) wr
        have hbb : brk a x ≤ 1000000 := by have := brk_bound ha (show x ≤ 1000 by omega); omega
        have c0 : wr.cell? ⟨w.heap.size, 0, none⟩ = some (.int .i64 u) := (hb.cell (p := ⟨w.heap.size, 0, none⟩) (by show w.heap.size < _; omega)).trans (cell_of hC 0)
        have c1 : wr.cell? ⟨w.heap.size, 1, none⟩ = some (.int .i64 a) := (hb.cell (p := ⟨w.heap.size, 1, none⟩) (by show w.heap.size < _; omega)).trans (cell_of hC 1)
        have c2 : wr.cell? ⟨w.heap.size, 2, none⟩ = some (.int .i64 v) := (hb.cell (p := ⟨w.heap.size, 2, none⟩) (by show w.heap.size < _; omega)).trans (cell_of hC 2)
        have zs := hb.size
        clear cB
        by_cases h1 : x = 1
        · subst h1
          have HD : Hid (down a r 1 = 1) := down_yes (by rw [brk_small (by omega)]; omega)
          go_wp2_with (go_at_call 104; refine cB1.mono ?_; rintro e w' ⟨rfl, hb2⟩)
          go_ret
          exact ⟨ret_int (by rw [← hd.out, HD.out]), bb.trans (hb.mono (by omega))⟩
        · have hx3 : (1 : Int) < x := by omega
          by_cases hlt : r - x < brk a x
          · have hz : ((r : Int) - x < brk a x) := by omega
            have HD : Hid (down a r x = down a r (x - 1)) := by
              have e2 : x = (x - 1) + 1 := by omega
              have := down_no (a := a) (left := r) (q := x - 1) (by rw [← e2]; exact hlt)
              rw [← e2] at this
              exact this
            go_wp2_with (go_at_call 104; refine cB1.mono ?_; rintro e w' ⟨rfl, hb2⟩)
            go_roundw
            case rel => exact ⟨x - 1, by omega, by omega, by unfold Hid; rw [← HD.out]; exact hd.out, by go_num, hb.trans (hb2.mono (by omega))⟩
            case measure => simp [intOf]; omega
          · have hz : ¬ ((r : Int) - x < brk a x) := by omega
            have HD : Hid (down a r x = x) := down_yes (by omega)
            go_wp2_with (go_at_call 104; refine cB1.mono ?_; rintro e w' ⟨rfl, hb2⟩)
            go_ret
            exact ⟨ret_int (by rw [← hd.out, HD.out]), bb.trans ((hb.trans (hb2.mono (by omega))).mono (by omega))⟩
theorem runs_nxt {a v rise left s i : Nat} (ha : 1 ≤ a) (hv : 1 ≤ v) (hs : 1 ≤ s + rise) (hi : i < (runs a v rise left s).length) :
    (runs a v rise left s).getD i 0 = nxt a (left - ((runs a v rise left s).take i).sum) (min (ahead s (runs a v rise left s) i + rise) v) := by
  obtain ⟨h1, h2⟩ := runs_drop ha hv i left s hs (by omega)
  generalize hr : runs a v rise left s = r at *
  have hd : r.drop i = r[i] :: r.drop (i + 1) := List.drop_eq_getElem_cons hi
  have hl : 1 ≤ left - (r.take i).sum := by
    by_cases h0 : left - (r.take i).sum = 0
    · rw [h0, runs_nil, hd] at h1; cases h1
    · omega
  rw [runs_cons ha hv hl h2, hd] at h1
  have e := (List.cons.inj h1).1
  have e2 : r.getD i 0 = r[i] := by simp [hi]
  rw [e2, e]
theorem spd_nxt {u a v n i : Nat} (ha : 1 ≤ a) (hv : 1 ≤ v) (hi : i < (spd u a v n).length) : (spd u a v n).getD i 0 = nxt a (n * u - pos u a v n i) (min (vel u a v n i + a) v) := by
  have := runs_nxt (a := a) (v := v) (rise := a) (left := n * u) (s := 0) ha hv (by omega) hi
  rw [← ahead_vel (by omega)]
  exact this
theorem take_succ_prof {u a v n j : Nat} (h : j < (spd u a v n).length) : (prof u a v n).take (j + 1) = (prof u a v n).take j ++ [pos u a v n (j + 1)] := by
  have hl : j < (prof u a v n).length := by rw [prof_len]; exact h
  rw [List.take_succ_eq_append_getElem hl]
  have := prof_get h
  rw [List.getElem?_eq_getElem hl] at this
  rw [Option.some.inj this]
set_option maxRecDepth 100000 in
set_option maxHeartbeats 4000000 in
theorem refProfile_in (u a v n : Nat) (w : World) (ok : Ok u a v) (hn1 : 1 ≤ n) (hn : n ≤ 16) :
    Calls Tryz.prog 74 #[.agg #[.int .i64 u, .int .i64 a, .int .i64 v], .int .i64 n] w fun e w' => ∃ x, e = .returned x ∧ w'.ownsRow w.heap.size 3 1 x (spd u a v n).length (ints (prof u a v n)) ∧ Below w.heap.size w w' := by
  have cM := fun w1 => may_yes u a v ok w1
  have hL := spd_bd ok hn1 hn
  have hnu := mul_small hn ok.u2
  obtain ⟨X, hX⟩ : ∃ X, n * u = X := ⟨_, rfl⟩
  have eX : (n : Int) * (u : Int) = (X : Int) := by rw [← Int.natCast_mul, hX]
  rw [hX] at hnu
  obtain ⟨a1, a2, v1, v2⟩ : 1 ≤ a ∧ a ≤ 1000 ∧ 1 ≤ v ∧ v ≤ 1000 := ⟨ok.a1, ok.a2, ok.v1, ok.v2⟩
  have u2 := ok.u2
  obtain ⟨w2, hw2⟩ : ∃ w2, w.alloc (.cells #[.int .i64 u, .int .i64 a, .int .i64 v] 99) = w2 := ⟨_, rfl⟩
  have bb : Below w.heap.size w w2 := by rw [← hw2]; exact (Below.refl _ _).alloc (Nat.le_refl _) _
  have s2 : w2.heap.size = w.heap.size + 1 := by rw [← hw2]; simp
  have hC : w2.heap[w.heap.size]? = some (.cells #[.int .i64 u, .int .i64 a, .int .i64 v] 99 (0, 0)) := by rw [← hw2]; exact World.alloc_heap_new _ _
  have k0 : w2.cell? ⟨w.heap.size, 0, none⟩ = some (.int .i64 u) := cell_of hC 0
  have k1 : w2.cell? ⟨w.heap.size, 1, none⟩ = some (.int .i64 a) := cell_of hC 1
  have k2 : w2.cell? ⟨w.heap.size, 2, none⟩ = some (.int .i64 v) := cell_of hC 2
  obtain ⟨i0, hi, hz0, hz1, hz2⟩ := info_parts infoInt
  have hnot : ∀ (x : Bool) (w : World), (Op.unary .not (.bool x)).run Tryz.prog w = .ok (.bool (!x)) w := fun _ _ => rfl
  have n1 : ¬ ((n : Int) < 1) := by omega
  have n2 : ¬ ((16 : Int) < n) := by omega
  go_enter Tryz.func74, Tryz.ntmps74
  go_wp2_with (go_at_call 96; refine (cM _).mono ?_; rintro e w3 ⟨rfl, b3⟩)
  try rw [hw2] at b3
  clear hw2
  go_loopw [5, 6, 7] (fun l p s wr => ∃ (j : Nat) (x : Value), j ≤ (spd u a v n).length ∧ x = l ∧ p = .int .i64 (pos u a v n j : Nat) ∧ s = .int .i64 (vel u a v n j : Nat) ∧ Below (w.heap.size + 1) w2 wr ∧ Hid (wr.ownsRow (w.heap.size + 1) 3 1 x j (ints ((prof u a v n).take j)))) (fun l p s wr => X - (intOf p).toNat)
  case atStart => exact ⟨0, _, Nat.zero_le _, rfl, by rw [pos_zero]; rfl, by rw [show vel u a v n 0 = 0 by simp [vel]]; rfl, b3.mono (by omega), World.ownsRow_nil _ _ _ _⟩
  case round =>
    obtain ⟨j, x, hj, rfl, rfl, rfl, hb, HO⟩ := hrel
    have c0 : wr.cell? ⟨w.heap.size, 0, none⟩ = some (.int .i64 u) := (hb.cell (p := ⟨w.heap.size, 0, none⟩) (by show w.heap.size < _; omega)).trans k0
    have c1 : wr.cell? ⟨w.heap.size, 1, none⟩ = some (.int .i64 a) := (hb.cell (p := ⟨w.heap.size, 1, none⟩) (by show w.heap.size < _; omega)).trans k1
    have c2 : wr.cell? ⟨w.heap.size, 2, none⟩ = some (.int .i64 v) := (hb.cell (p := ⟨w.heap.size, 2, none⟩) (by show w.heap.size < _; omega)).trans k2
    have zs := hb.size
    have p1 := pos_le (u := u) (n := n) a1 v1 j
    rw [hX] at p1
    by_cases hlt : j < (spd u a v n).length
    · have st := spd_step (u := u) (n := n) a1 v1 hlt
      have q1 := st.pos
      have q2 := st.le
      have q3 := st.top
      have e1 := pos_succ (u := u) (a := a) (v := v) (n := n) (t := j) hlt
      have e2 := vel_succ (u := u) (a := a) (v := v) (n := n) (t := j) hlt
      have e3 := spd_nxt (u := u) (n := n) a1 v1 hlt
      have hv0 : vel u a v n j ≤ 1000 := by
        by_cases h0 : j = 0
        · rw [h0, show vel u a v n 0 = 0 by simp [vel]]; omega
        · have := (vel_bd (u := u) (n := n) ok (t := j) (by omega) (by omega)).2
          omega
      rw [hX] at q2 e3
      have cN := refnext_any u a v (X - pos u a v n j) (vel u a v n j) v wr a1 a2 (by omega) (by omega) hv0 v1 v2
      rw [← e3, ← e2, show ((X - pos u a v n j : Nat) : Int) = (X : Int) - (pos u a v n j : Nat) by omega] at cN
      rw [← e2] at q1 q3 e1
      have hO := HO.out
      have ht := take_succ_prof hlt
      have HE : Hid ((pos u a v n j : Nat) + (vel u a v n (j + 1) : Nat) = (pos u a v n (j + 1) : Nat)) := e1.symm
      have HW : Hid (∀ S, vel u a v n (j + 1) = S → vel u a v n (j + 1) = S) := fun S h => h
      have HV : Hid (pos u a v n j < X) := by unfold Hid; omega
      have cAp : ∀ w5 : World, Below wr.heap.size wr w5 → ∃ v6 w6, (Builtin.append_ #[50, 50] 50 #[x, .slice (some ⟨w5.heap.size, 0, none⟩) 1 1]).run Tryz.prog (w5.alloc (.cells #[.int .i64 ((pos u a v n j : Nat) + (vel u a v n (j + 1) : Nat) : Int)] 3)) = .ok v6 w6 ∧ w6.ownsRow (w.heap.size + 1) 3 1 v6 (j + 1) (ints ((prof u a v n).take (j + 1))) ∧ Below (w.heap.size + 1) w2 w6 := by
        intro w5 b5
        have z5 := b5.size
        have bA : Below wr.heap.size wr (w5.alloc (.cells #[.int .i64 ((pos u a v n j : Nat) + (vel u a v n (j + 1) : Nat) : Int)] 3)) := b5.alloc b5.size _
        obtain ⟨v6, w6, hrun, o6, g6, _⟩ := run_append_own (P := Tryz.prog) (w5.alloc (.cells #[.int .i64 ((pos u a v n j : Nat) + (vel u a v n (j + 1) : Nat) : Int)] 3)) (w.heap.size + 1) 50 50 3 i0 (.int .i64 0) 1 8 Tryz.underlying50 hi hz0 hz1 hz2 rfl (by decide) x j (ints ((prof u a v n).take j))
          (owns_go hO bA) ⟨w5.heap.size, 0, none⟩ 1 1 [.int .i64 ((pos u a v n j : Nat) + (vel u a v n (j + 1) : Nat) : Int)] rfl (cell_one_new _ _ _) (by simp [Value.oneCell']) (by unfold maxLen; omega) (by omega) (by simp; omega)
        refine ⟨v6, w6, hrun, ?_, ?_⟩
        · have e : ints ((prof u a v n).take (j + 1)) = ints ((prof u a v n).take j) ++ [.int .i64 ((pos u a v n j : Nat) + (vel u a v n (j + 1) : Nat) : Int)] := by rw [ht, ← HE.out]; unfold ints; rw [List.map_append]; rfl
          rw [e]
          exact o6
        · exact hb.trans ((bA.mono (by omega)).grown g6 (by simp; omega) (fun k e => (own_since hO k e).1))
      clear st e1 e2 e3 hO HO ht cM
      obtain ⟨S1, hS1⟩ : ∃ S1, vel u a v n (j + 1) = S1 := ⟨_, rfl⟩
      have ES : Hid (vel u a v n (j + 1) = S1) := hS1
      rw [hS1] at cN q1 q3 HE cAp
      clear hS1 HW
      generalize hP0 : pos u a v n j = P0 at *
      generalize vel u a v n j = S0 at *
      have hlt2 : (P0 : Int) < X := by have := HV.out; omega
      go_wp2_with (first | (go_at_call 97; refine cN.mono ?_; rintro e w5 ⟨rfl, b5⟩; obtain ⟨v6, w6, hrun, o6, b6⟩ := cAp w5 b5) | (at_builtin; refine Lib.wpList_append_run _ rfl _ _ 50 50 rfl _ _ rfl rfl _ _ hrun ?_))
      go_roundw
      case rel => exact ⟨j + 1, v6, by omega, rfl, congrArg (Value.int IntKind.i64) (by have := HE.out; omega), by rw [ES.out], b6, o6⟩
      case measure => simp [intOf]; omega
    · have e0 : pos u a v n j = X := by rw [← hX]; exact pos_end a1 v1 (by omega)
      have ej : j = (spd u a v n).length := by omega
      rw [e0]
      have hO := HO.out
      rw [ej, ← prof_len, List.take_length, prof_len] at hO
      have HF : Hid (wr.ownsRow (w.heap.size + 1) 3 1 x (spd u a v n).length (ints (prof u a v n))) := hO
      obtain ⟨xa, xc, rfl, _⟩ := own_form hO
      clear hO HO ej cM
      go_wp2
      go_ret
      exact ⟨_, rfl, owns_base (by omega) HF.out, bb.trans (hb.mono (by omega))⟩
end Go.Proofs.YtedmfhkdaifegaaGreat.Kin
namespace Go.Proofs.YtedmfhkdaifegaaGreat.Kin
set_option linter.unusedVariables false
set_option linter.unusedSimpArgs false
open Go Go.RowKit Go.Shelf Go.Proofs
attribute [local go_sem] Oper.semAt_some

set_option maxHeartbeats 2000000 in
theorem refProfile_any (u a v : Nat) (n : Int) (w : World) (ok : Ok u a v) :
    Calls Tryz.prog 74 #[.agg #[.int .i64 u, .int .i64 a, .int .i64 v], .int .i64 n] w fun e w' => ∃ x, e = .returned x ∧ w'.ownsRow w.heap.size 3 1 x (profI u a v n).length (ints (profI u a v n)) ∧ Below w.heap.size w w' := by
  by_cases hn : 1 ≤ n ∧ n ≤ 16
  · obtain ⟨m, rfl⟩ := Int.eq_ofNat_of_zero_le (show 0 ≤ n by omega)
    rw [profI_in (by omega) (by omega), prof_len]
    exact refProfile_in u a v m w ok (by omega) (by omega)
  · rw [profI_out (by omega)]
    have bb : Below w.heap.size w (w.alloc (.cells #[.int .i64 u, .int .i64 a, .int .i64 v] 99)) := (Below.refl _ _).alloc (Nat.le_refl _) _
    clear ok
    by_cases h1 : n < 1
    · go_enter Tryz.func74, Tryz.ntmps74
      go_wp2
      go_ret
      exact ⟨_, rfl, World.ownsRow_nil _ _ _ _, bb⟩
    · have h2 : 16 < n := by omega
      have h3 : decide (n < 1) = false := decide_eq_false h1
      go_enter Tryz.func74, Tryz.ntmps74
      go_wp2
      go_ret
      exact ⟨_, rfl, World.ownsRow_nil _ _ _ _, bb⟩
set_option maxHeartbeats 2000000 in
theorem refTime_any (u a v : Nat) (n : Int) (w : World) (ok : Ok u a v) :
    Calls Tryz.prog 60 #[.agg #[.int .i64 u, .int .i64 a, .int .i64 v], .int .i64 n] w fun e w' => e = .returned (.int .i64 ((profI u a v n).length : Nat)) ∧ Below w.heap.size w w' := by
  have cP := fun w1 => refProfile_any u a v n w1 ok
  generalize (profI u a v n).length = k at *
  generalize ints (profI u a v n) = xs at *
  have bb : Below w.heap.size w (w.alloc (.cells #[.int .i64 u, .int .i64 a, .int .i64 v] 99)) := (Below.refl _ _).alloc (Nat.le_refl _) _
  go_enter Tryz.func60, Tryz.ntmps60
  go_wp2_with (go_at_call 74; refine (cP _).mono ?_; rintro e w3 ⟨x, rfl, r3, b3⟩; obtain ⟨xa, xc, rfl, _⟩ := own_form r3)
  go_ret
  exact ⟨rfl, bb.trans (b3.mono bb.size)⟩
end Go.Proofs.YtedmfhkdaifegaaGreat.Kin
namespace Go.Proofs.YtedmfhkdaifegaaGreat.Kin
set_option linter.unusedVariables false
set_option linter.unusedSimpArgs false
open Go Go.RowKit Go.Shelf Go.Proofs
attribute [local go_sem] Oper.semAt_some

end Go.Proofs.YtedmfhkdaifegaaGreat.Kin
