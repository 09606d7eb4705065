/-
  The chapter's own answers: the next speed, the profile, the place, the speed, the stop.
  The chapter's own answers, further: how many ticks, the place, the speed, the stop.
  The chapter's own answer to how a run ends that is stopped.
-/
import Derived.Test.YtedhoghleelhfaaGreatQRkC
namespace Go.Proofs.YtedhoghleelhfaaGreat.Kin
set_option linter.unusedVariables false
set_option linter.unusedSimpArgs false
open Go Go.RowKit Go.Shelf Go.Proofs
attribute [local go_sem] Oper.semAt_some

set_option maxHeartbeats 2000000 in
theorem refnext_any (u a v r s f : Nat) (w : World) (ha : 1 ≤ a) (ha2 : a ≤ 1000) (hr : 1 ≤ r) (hr2 : r ≤ 2000000) (hs2 : s ≤ 1000) (hf : 1 ≤ f) (hf2 : f ≤ 1000) :
    Calls Tryz.prog 99 #[.agg #[.int .i64 u, .int .i64 a, .int .i64 v], .int .i64 r, .int .i64 s, .int .i64 f] w fun e w' => e = .returned (.int .i64 (nxt a r (min (s + a) f) : Nat)) ∧ Below w.heap.size w w' := by
  have cB := fun (x : Nat) (hx : x ≤ 1000) (w1 : World) => refbrake_any u a v x w1 ha ha2 hx
  obtain ⟨w2, hw2⟩ : ∃ w2, w.alloc (.cells #[.int .i64 u, .int .i64 a, .int .i64 v] 121) = w2 := ⟨_, rfl⟩
  have bb : Below w.heap.size w w2 := by rw [← hw2]; exact (Below.refl _ _).alloc (Nat.le_refl _) _
  have s2 : w2.heap.size = w.heap.size + 1 := by rw [← hw2]; simp
  have hC : w2.heap[w.heap.size]? = some (.cells #[.int .i64 u, .int .i64 a, .int .i64 v] 121 (0, 0)) := by rw [← hw2]; exact World.alloc_heap_new _ _
  have k1 : w2.cell? ⟨w.heap.size, 1, none⟩ = some (.int .i64 a) := cell_of hC 1
  by_cases h1 : (f : Int) < (s : Int) + a
  · by_cases h2 : (r : Int) < f
    · go_enter Tryz.func99, Tryz.ntmps99
      go_wp2
      try rw [hw2]
      clear hw2
      go_loopw [9] (fun q wr => ∃ x : Nat, 1 ≤ x ∧ x ≤ min (min (s + a) f) r ∧ Hid (down a r x = nxt a r (min (s + a) f)) ∧ q = .int .i64 x ∧ Below (w.heap.size + 1) w2 wr) (fun q wr => (intOf q).toNat)
      case atStart => exact ⟨min (min (s + a) f) r, by omega, Nat.le_refl _, rfl, congrArg (Value.int IntKind.i64) (by omega), Below.refl _ _⟩
      case round =>
        obtain ⟨x, hx1, hx2, hd, rfl, hb⟩ := hrel
        have cB1 := cB x (by omega) wr
        have hbb : brk a x ≤ 1000000 := by have := brk_bound ha (show x ≤ 1000 by omega); omega
        have c0 : wr.cell? ⟨w.heap.size, 0, none⟩ = some (.int .i64 u) := (hb.cell (p := ⟨w.heap.size, 0, none⟩) (by show w.heap.size < _; omega)).trans (cell_of hC 0)
        have c1 : wr.cell? ⟨w.heap.size, 1, none⟩ = some (.int .i64 a) := (hb.cell (p := ⟨w.heap.size, 1, none⟩) (by show w.heap.size < _; omega)).trans (cell_of hC 1)
        have c2 : wr.cell? ⟨w.heap.size, 2, none⟩ = some (.int .i64 v) := (hb.cell (p := ⟨w.heap.size, 2, none⟩) (by show w.heap.size < _; omega)).trans (cell_of hC 2)
        have zs := hb.size
        clear cB
        by_cases h1 : x = 1
        · subst h1
          have HD : Hid (down a r 1 = 1) := down_yes (by rw [brk_small (by omega)]; omega)
          go_wp2_with (go_at_call 98; refine cB1.mono ?_; rintro e w' ⟨rfl, hb2⟩)
          go_ret
          exact ⟨ret_int (by rw [← hd.out, HD.out]), bb.trans (hb.mono (by omega))⟩
        · have hx3 : (1 : Int) < x := by omega
          by_cases hlt : r - x < brk a x
          · have hz : ((r : Int) - x < brk a x) := by omega
            have HD : Hid (down a r x = down a r (x - 1)) := by
              have e2 : x = (x - 1) + 1 := by omega
              have := down_no (a := a) (left := r) (q := x - 1) (by rw [← e2]; exact hlt)
              rw [← e2] at this
              exact this
            go_wp2_with (go_at_call 98; refine cB1.mono ?_; rintro e w' ⟨rfl, hb2⟩)
            go_roundw
            case rel => exact ⟨x - 1, by omega, by omega, by unfold Hid; rw [← HD.out]; exact hd.out, by go_num, hb.trans (hb2.mono (by omega))⟩
            case measure => simp [intOf]; omega
          · have hz : ¬ ((r : Int) - x < brk a x) := by omega
            have HD : Hid (down a r x = x) := down_yes (by omega)
            go_wp2_with (go_at_call 98; refine cB1.mono ?_; rintro e w' ⟨rfl, hb2⟩)
            go_ret
            exact ⟨ret_int (by rw [← hd.out, HD.out]), bb.trans ((hb.trans (hb2.mono (by omega))).mono (by omega))⟩
    · go_enter Tryz.func99, Tryz.ntmps99
      go_wp2
      try rw [hw2]
      clear hw2
      go_loopw [9] (fun q wr => ∃ x : Nat, 1 ≤ x ∧ x ≤ min (min (s + a) f) r ∧ Hid (down a r x = nxt a r (min (s + a) f)) ∧ q = .int .i64 x ∧ Below (w.heap.size + 1) w2 wr) (fun q wr => (intOf q).toNat)
      case atStart => exact ⟨min (min (s + a) f) r, by omega, Nat.le_refl _, rfl, congrArg (Value.int IntKind.i64) (by omega), Below.refl _ _⟩
      case round =>
        obtain ⟨x, hx1, hx2, hd, rfl, hb⟩ := hrel
        have cB1 := cB x (by omega) wr
        have hbb : brk a x ≤ 1000000 := by have := brk_bound ha (show x ≤ 1000 by omega); omega
        have c0 : wr.cell? ⟨w.heap.size, 0, none⟩ = some (.int .i64 u) := (hb.cell (p := ⟨w.heap.size, 0, none⟩) (by show w.heap.size < _; omega)).trans (cell_of hC 0)
        have c1 : wr.cell? ⟨w.heap.size, 1, none⟩ = some (.int .i64 a) := (hb.cell (p := ⟨w.heap.size, 1, none⟩) (by show w.heap.size < _; omega)).trans (cell_of hC 1)
        have c2 : wr.cell? ⟨w.heap.size, 2, none⟩ = some (.int .i64 v) := (hb.cell (p := ⟨w.heap.size, 2, none⟩) (by show w.heap.size < _; omega)).trans (cell_of hC 2)
        have zs := hb.size
        clear cB
        by_cases h1 : x = 1
        · subst h1
          have HD : Hid (down a r 1 = 1) := down_yes (by rw [brk_small (by omega)]; omega)
          go_wp2_with (go_at_call 98; refine cB1.mono ?_; rintro e w' ⟨rfl, hb2⟩)
          go_ret
          exact ⟨ret_int (by rw [← hd.out, HD.out]), bb.trans (hb.mono (by omega))⟩
        · have hx3 : (1 : Int) < x := by omega
          by_cases hlt : r - x < brk a x
          · have hz : ((r : Int) - x < brk a x) := by omega
            have HD : Hid (down a r x = down a r (x - 1)) := by
              have e2 : x = (x - 1) + 1 := by omega
              have := down_no (a := a) (left := r) (q := x - 1) (by rw [← e2]; exact hlt)
              rw [← e2] at this
              exact this
            go_wp2_with (go_at_call 98; refine cB1.mono ?_; rintro e w' ⟨rfl, hb2⟩)
            go_roundw
            case rel => exact ⟨x - 1, by omega, by omega, by unfold Hid; rw [← HD.out]; exact hd.out, by go_num, hb.trans (hb2.mono (by omega))⟩
            case measure => simp [intOf]; omega
          · have hz : ¬ ((r : Int) - x < brk a x) := by omega
            have HD : Hid (down a r x = x) := down_yes (by omega)
            go_wp2_with (go_at_call 98; refine cB1.mono ?_; rintro e w' ⟨rfl, hb2⟩)
            go_ret
            exact ⟨ret_int (by rw [← hd.out, HD.out]), bb.trans ((hb.trans (hb2.mono (by omega))).mono (by omega))⟩
  · by_cases h2 : (r : Int) < (s : Int) + a
    · go_enter Tryz.func99, Tryz.ntmps99
      go_wp2
      try rw [hw2]
      clear hw2
      go_loopw [9] (fun q wr => ∃ x : Nat, 1 ≤ x ∧ x ≤ min (min (s + a) f) r ∧ Hid (down a r x = nxt a r (min (s + a) f)) ∧ q = .int .i64 x ∧ Below (w.heap.size + 1) w2 wr) (fun q wr => (intOf q).toNat)
      case atStart => exact ⟨min (min (s + a) f) r, by omega, Nat.le_refl _, rfl, congrArg (Value.int IntKind.i64) (by omega), Below.refl _ _⟩
      case round =>
        obtain ⟨x, hx1, hx2, hd, rfl, hb⟩ := hrel
        have cB1 := cB x (by omega) wr
        have hbb : brk a x ≤ 1000000 := by have := brk_bound ha (show x ≤ 1000 by omega); omega
        have c0 : wr.cell? ⟨w.heap.size, 0, none⟩ = some (.int .i64 u) := (hb.cell (p := ⟨w.heap.size, 0, none⟩) (by show w.heap.size < _; omega)).trans (cell_of hC 0)
        have c1 : wr.cell? ⟨w.heap.size, 1, none⟩ = some (.int .i64 a) := (hb.cell (p := ⟨w.heap.size, 1, none⟩) (by show w.heap.size < _; omega)).trans (cell_of hC 1)
        have c2 : wr.cell? ⟨w.heap.size, 2, none⟩ = some (.int .i64 v) := (hb.cell (p := ⟨w.heap.size, 2, none⟩) (by show w.heap.size < _; omega)).trans (cell_of hC 2)
        have zs := hb.size
        clear cB
        by_cases h1 : x = 1
        · subst h1
          have HD : Hid (down a r 1 = 1) := down_yes (by rw [brk_small (by omega)]; omega)
          go_wp2_with (go_at_call 98; refine cB1.mono ?_; rintro e w' ⟨rfl, hb2⟩)
          go_ret
          exact ⟨ret_int (by rw [← hd.out, HD.out]), bb.trans (hb.mono (by omega))⟩
        · have hx3 : (1 : Int) < x := by omega
          by_cases hlt : r - x < brk a x
          · have hz : ((r : Int) - x < brk a x) := by omega
            have HD : Hid (down a r x = down a r (x - 1)) := by
              have e2 : x = (x - 1) + 1 := by omega
              have := down_no (a := a) (left := r) (q := x - 1) (by rw [← e2]; exact hlt)
              rw [← e2] at this
              exact this
            go_wp2_with (go_at_call 98; refine cB1.mono ?_; rintro e w' ⟨rfl, hb2⟩)
            go_roundw
            case rel => exact ⟨x - 1, by omega, by omega, by unfold Hid; rw [← HD.out]; exact hd.out, by go_num, hb.trans (hb2.mono (by omega))⟩
            case measure => simp [intOf]; omega
          · have hz : ¬ ((r : Int) - x < brk a x) := by omega
            have HD : Hid (down a r x = x) := down_yes (by omega)
            go_wp2_with (go_at_call 98; refine cB1.mono ?_; rintro e w' ⟨rfl, hb2⟩)
            go_ret
            exact ⟨ret_int (by rw [← hd.out, HD.out]), bb.trans ((hb.trans (hb2.mono (by omega))).mono (by omega))⟩
    · go_enter Tryz.func99, Tryz.ntmps99
      go_wp2
      try rw [hw2]
      clear hw2
      go_loopw [9] (fun q wr => ∃ x : Nat, 1 ≤ x ∧ x ≤ min (min (s + a) f) r ∧ Hid (down a r x = nxt a r (min (s + a) f)) ∧ q = .int .i64 x ∧ Below (w.heap.size + 1) w2 wr) (fun q wr => (intOf q).toNat)
      case atStart => exact ⟨min (min (s + a) f) r, by omega, Nat.le_refl _, rfl, congrArg (Value.int IntKind.i64) (by omega), Below.refl _ _⟩
      case round =>
        obtain ⟨x, hx1, hx2, hd, rfl, hb⟩ := hrel
        have cB1 := cB x (by omega) wr
        have hbb : brk a x ≤ 1000000 := by have := brk_bound ha (show x ≤ 1000 by omega); omega
        have c0 : wr.cell? ⟨w.heap.size, 0, none⟩ = some (.int .i64 u) := (hb.cell (p := ⟨w.heap.size, 0, none⟩) (by show w.heap.size < _; omega)).trans (cell_of hC 0)
        have c1 : wr.cell? ⟨w.heap.size, 1, none⟩ = some (.int .i64 a) := (hb.cell (p := ⟨w.heap.size, 1, none⟩) (by show w.heap.size < _; omega)).trans (cell_of hC 1)
        have c2 : wr.cell? ⟨w.heap.size, 2, none⟩ = some (.int .i64 v) := (hb.cell (p := ⟨w.heap.size, 2, none⟩) (by show w.heap.size < _; omega)).trans (cell_of hC 2)
        have zs := hb.size
        clear cB
        by_cases h1 : x = 1
        · subst h1
          have HD : Hid (down a r 1 = 1) := down_yes (by rw [brk_small (by omega)]; omega)
          go_wp2_with (go_at_call 98; refine cB1.mono ?_; rintro e w' ⟨rfl, hb2⟩)
          go_ret
          exact ⟨ret_int (by rw [← hd.out, HD.out]), bb.trans (hb.mono (by omega))⟩
        · have hx3 : (1 : Int) < x := by omega
          by_cases hlt : r - x < brk a x
          · have hz : ((r : Int) - x < brk a x) := by omega
            have HD : Hid (down a r x = down a r (x - 1)) := by
              have e2 : x = (x - 1) + 1 := by omega
              have := down_no (a := a) (left := r) (q := x - 1) (by rw [← e2]; exact hlt)
              rw [← e2] at this
              exact this
            go_wp2_with (go_at_call 98; refine cB1.mono ?_; rintro e w' ⟨rfl, hb2⟩)
            go_roundw
            case rel => exact ⟨x - 1, by omega, by omega, by unfold Hid; rw [← HD.out]; exact hd.out, by go_num, hb.trans (hb2.mono (by omega))⟩
            case measure => simp [intOf]; omega
          · have hz : ¬ ((r : Int) - x < brk a x) := by omega
            have HD : Hid (down a r x = x) := down_yes (by omega)
            go_wp2_with (go_at_call 98; refine cB1.mono ?_; rintro e w' ⟨rfl, hb2⟩)
            go_ret
            exact ⟨ret_int (by rw [← hd.out, HD.out]), bb.trans ((hb.trans (hb2.mono (by omega))).mono (by omega))⟩
theorem runs_nxt {a v rise left s i : Nat} (ha : 1 ≤ a) (hv : 1 ≤ v) (hs : 1 ≤ s + rise) (hi : i < (runs a v rise left s).length) :
    (runs a v rise left s).getD i 0 = nxt a (left - ((runs a v rise left s).take i).sum) (min (ahead s (runs a v rise left s) i + rise) v) := by
  obtain ⟨h1, h2⟩ := runs_drop ha hv i left s hs (by omega)
  generalize hr : runs a v rise left s = r at *
  have hd : r.drop i = r[i] :: r.drop (i + 1) := List.drop_eq_getElem_cons hi
  have hl : 1 ≤ left - (r.take i).sum := by
    by_cases h0 : left - (r.take i).sum = 0
    · rw [h0, runs_nil, hd] at h1; cases h1
    · omega
  rw [runs_cons ha hv hl h2, hd] at h1
  have e := (List.cons.inj h1).1
  have e2 : r.getD i 0 = r[i] := by simp [hi]
  rw [e2, e]
theorem spd_nxt {u a v n i : Nat} (ha : 1 ≤ a) (hv : 1 ≤ v) (hi : i < (spd u a v n).length) : (spd u a v n).getD i 0 = nxt a (n * u - pos u a v n i) (min (vel u a v n i + a) v) := by
  have := runs_nxt (a := a) (v := v) (rise := a) (left := n * u) (s := 0) ha hv (by omega) hi
  rw [← ahead_vel (by omega)]
  exact this
theorem take_succ_prof {u a v n j : Nat} (h : j < (spd u a v n).length) : (prof u a v n).take (j + 1) = (prof u a v n).take j ++ [pos u a v n (j + 1)] := by
  have hl : j < (prof u a v n).length := by rw [prof_len]; exact h
  rw [List.take_succ_eq_append_getElem hl]
  have := prof_get h
  rw [List.getElem?_eq_getElem hl] at this
  rw [Option.some.inj this]
set_option maxRecDepth 100000 in
set_option maxHeartbeats 4000000 in
theorem refProfile_in (u a v n : Nat) (w : World) (ok : Ok u a v) (hn1 : 1 ≤ n) (hn : n ≤ 16) :
    Calls Tryz.prog 83 #[.agg #[.int .i64 u, .int .i64 a, .int .i64 v], .int .i64 n] w fun e w' => ∃ x, e = .returned x ∧ w'.ownsRow w.heap.size 3 1 x (spd u a v n).length (ints (prof u a v n)) ∧ Below w.heap.size w w' := by
  have cM := fun w1 => may_yes u a v ok w1
  have hL := spd_bd ok hn1 hn
  have hnu := mul_small hn ok.u2
  obtain ⟨X, hX⟩ : ∃ X, n * u = X := ⟨_, rfl⟩
  have eX : (n : Int) * (u : Int) = (X : Int) := by rw [← Int.natCast_mul, hX]
  rw [hX] at hnu
  obtain ⟨a1, a2, v1, v2⟩ : 1 ≤ a ∧ a ≤ 1000 ∧ 1 ≤ v ∧ v ≤ 1000 := ⟨ok.a1, ok.a2, ok.v1, ok.v2⟩
  have u2 := ok.u2
  obtain ⟨w2, hw2⟩ : ∃ w2, w.alloc (.cells #[.int .i64 u, .int .i64 a, .int .i64 v] 121) = w2 := ⟨_, rfl⟩
  have bb : Below w.heap.size w w2 := by rw [← hw2]; exact (Below.refl _ _).alloc (Nat.le_refl _) _
  have s2 : w2.heap.size = w.heap.size + 1 := by rw [← hw2]; simp
  have hC : w2.heap[w.heap.size]? = some (.cells #[.int .i64 u, .int .i64 a, .int .i64 v] 121 (0, 0)) := by rw [← hw2]; exact World.alloc_heap_new _ _
  have k0 : w2.cell? ⟨w.heap.size, 0, none⟩ = some (.int .i64 u) := cell_of hC 0
  have k1 : w2.cell? ⟨w.heap.size, 1, none⟩ = some (.int .i64 a) := cell_of hC 1
  have k2 : w2.cell? ⟨w.heap.size, 2, none⟩ = some (.int .i64 v) := cell_of hC 2
  obtain ⟨i0, hi, hz0, hz1, hz2⟩ := info_parts infoInt
  have hnot : ∀ (x : Bool) (w : World), (Op.unary .not (.bool x)).run Tryz.prog w = .ok (.bool (!x)) w := fun _ _ => rfl
  have n1 : ¬ ((n : Int) < 1) := by omega
  have n2 : ¬ ((16 : Int) < n) := by omega
  go_enter Tryz.func83, Tryz.ntmps83
  go_wp2_with (go_at_call 100; refine (cM _).mono ?_; rintro e w3 ⟨rfl, b3⟩)
  try rw [hw2] at b3
  clear hw2
  go_loopw [5, 6, 7] (fun l p s wr => ∃ (j : Nat) (x : Value), j ≤ (spd u a v n).length ∧ x = l ∧ p = .int .i64 (pos u a v n j : Nat) ∧ s = .int .i64 (vel u a v n j : Nat) ∧ Below (w.heap.size + 1) w2 wr ∧ Hid (wr.ownsRow (w.heap.size + 1) 3 1 x j (ints ((prof u a v n).take j)))) (fun l p s wr => X - (intOf p).toNat)
  case atStart => exact ⟨0, _, Nat.zero_le _, rfl, by rw [pos_zero]; rfl, by rw [show vel u a v n 0 = 0 by simp [vel]]; rfl, b3.mono (by omega), World.ownsRow_nil _ _ _ _⟩
  case round =>
    obtain ⟨j, x, hj, rfl, rfl, rfl, hb, HO⟩ := hrel
    have c0 : wr.cell? ⟨w.heap.size, 0, none⟩ = some (.int .i64 u) := (hb.cell (p := ⟨w.heap.size, 0, none⟩) (by show w.heap.size < _; omega)).trans k0
    have c1 : wr.cell? ⟨w.heap.size, 1, none⟩ = some (.int .i64 a) := (hb.cell (p := ⟨w.heap.size, 1, none⟩) (by show w.heap.size < _; omega)).trans k1
    have c2 : wr.cell? ⟨w.heap.size, 2, none⟩ = some (.int .i64 v) := (hb.cell (p := ⟨w.heap.size, 2, none⟩) (by show w.heap.size < _; omega)).trans k2
    have zs := hb.size
    have p1 := pos_le (u := u) (n := n) a1 v1 j
    rw [hX] at p1
    by_cases hlt : j < (spd u a v n).length
    · have st := spd_step (u := u) (n := n) a1 v1 hlt
      have q1 := st.pos
      have q2 := st.le
      have q3 := st.top
      have e1 := pos_succ (u := u) (a := a) (v := v) (n := n) (t := j) hlt
      have e2 := vel_succ (u := u) (a := a) (v := v) (n := n) (t := j) hlt
      have e3 := spd_nxt (u := u) (n := n) a1 v1 hlt
      have hv0 : vel u a v n j ≤ 1000 := by
        by_cases h0 : j = 0
        · rw [h0, show vel u a v n 0 = 0 by simp [vel]]; omega
        · have := (vel_bd (u := u) (n := n) ok (t := j) (by omega) (by omega)).2
          omega
      rw [hX] at q2 e3
      have cN := refnext_any u a v (X - pos u a v n j) (vel u a v n j) v wr a1 a2 (by omega) (by omega) hv0 v1 v2
      rw [← e3, ← e2, show ((X - pos u a v n j : Nat) : Int) = (X : Int) - (pos u a v n j : Nat) by omega] at cN
      rw [← e2] at q1 q3 e1
      have hO := HO.out
      have ht := take_succ_prof hlt
      have HE : Hid ((pos u a v n j : Nat) + (vel u a v n (j + 1) : Nat) = (pos u a v n (j + 1) : Nat)) := e1.symm
      have HW : Hid (∀ S, vel u a v n (j + 1) = S → vel u a v n (j + 1) = S) := fun S h => h
      have HV : Hid (pos u a v n j < X) := by unfold Hid; omega
      have cAp : ∀ w5 : World, Below wr.heap.size wr w5 → ∃ v6 w6, (Builtin.append_ #[50, 50] 50 #[x, .slice (some ⟨w5.heap.size, 0, none⟩) 1 1]).run Tryz.prog (w5.alloc (.cells #[.int .i64 ((pos u a v n j : Nat) + (vel u a v n (j + 1) : Nat) : Int)] 3)) = .ok v6 w6 ∧ w6.ownsRow (w.heap.size + 1) 3 1 v6 (j + 1) (ints ((prof u a v n).take (j + 1))) ∧ Below (w.heap.size + 1) w2 w6 := by
        intro w5 b5
        have z5 := b5.size
        have bA : Below wr.heap.size wr (w5.alloc (.cells #[.int .i64 ((pos u a v n j : Nat) + (vel u a v n (j + 1) : Nat) : Int)] 3)) := b5.alloc b5.size _
        obtain ⟨v6, w6, hrun, o6, g6, _⟩ := run_append_own (P := Tryz.prog) (w5.alloc (.cells #[.int .i64 ((pos u a v n j : Nat) + (vel u a v n (j + 1) : Nat) : Int)] 3)) (w.heap.size + 1) 50 50 3 i0 (.int .i64 0) 1 8 Tryz.underlying50 hi hz0 hz1 hz2 rfl (by decide) x j (ints ((prof u a v n).take j))
          (owns_go hO bA) ⟨w5.heap.size, 0, none⟩ 1 1 [.int .i64 ((pos u a v n j : Nat) + (vel u a v n (j + 1) : Nat) : Int)] rfl (cell_one_new _ _ _) (by simp [Value.oneCell']) (by unfold maxLen; omega) (by omega) (by simp; omega)
        refine ⟨v6, w6, hrun, ?_, ?_⟩
        · have e : ints ((prof u a v n).take (j + 1)) = ints ((prof u a v n).take j) ++ [.int .i64 ((pos u a v n j : Nat) + (vel u a v n (j + 1) : Nat) : Int)] := by rw [ht, ← HE.out]; unfold ints; rw [List.map_append]; rfl
          rw [e]
          exact o6
        · exact hb.trans ((bA.mono (by omega)).grown g6 (by simp; omega) (fun k e => (own_since hO k e).1))
      clear st e1 e2 e3 hO HO ht cM
      obtain ⟨S1, hS1⟩ : ∃ S1, vel u a v n (j + 1) = S1 := ⟨_, rfl⟩
      have ES : Hid (vel u a v n (j + 1) = S1) := hS1
      rw [hS1] at cN q1 q3 HE cAp
      clear hS1 HW
      generalize hP0 : pos u a v n j = P0 at *
      generalize vel u a v n j = S0 at *
      have hlt2 : (P0 : Int) < X := by have := HV.out; omega
      go_wp2_with (first | (go_at_call 99; refine cN.mono ?_; rintro e w5 ⟨rfl, b5⟩; obtain ⟨v6, w6, hrun, o6, b6⟩ := cAp w5 b5) | (at_builtin; refine Lib.wpList_append_run _ rfl _ _ 50 50 rfl _ _ rfl rfl _ _ hrun ?_))
      go_roundw
      case rel => exact ⟨j + 1, v6, by omega, rfl, congrArg (Value.int IntKind.i64) (by have := HE.out; omega), by rw [ES.out], b6, o6⟩
      case measure => simp [intOf]; omega
    · have e0 : pos u a v n j = X := by rw [← hX]; exact pos_end a1 v1 (by omega)
      have ej : j = (spd u a v n).length := by omega
      rw [e0]
      have hO := HO.out
      rw [ej, ← prof_len, List.take_length, prof_len] at hO
      have HF : Hid (wr.ownsRow (w.heap.size + 1) 3 1 x (spd u a v n).length (ints (prof u a v n))) := hO
      obtain ⟨xa, xc, rfl, _⟩ := own_form hO
      clear hO HO ej cM
      go_wp2
      go_ret
      exact ⟨_, rfl, owns_base (by omega) HF.out, bb.trans (hb.mono (by omega))⟩
end Go.Proofs.YtedhoghleelhfaaGreat.Kin
namespace Go.Proofs.YtedhoghleelhfaaGreat.Kin
set_option linter.unusedVariables false
set_option linter.unusedSimpArgs false
open Go Go.RowKit Go.Shelf Go.Proofs
attribute [local go_sem] Oper.semAt_some

theorem box_cell {w w3 : World} {u a v : Nat} (b3 : Below (w.alloc (.cells #[.int .i64 u, .int .i64 a, .int .i64 v] 121)).heap.size (w.alloc (.cells #[.int .i64 u, .int .i64 a, .int .i64 v] 121)) w3) : w3.cell? ⟨w.heap.size, 0, none⟩ = some (.int .i64 u) ∧ w3.cell? ⟨w.heap.size, 1, none⟩ = some (.int .i64 a) ∧ w3.cell? ⟨w.heap.size, 2, none⟩ = some (.int .i64 v) :=
  ⟨(b3.cell (p := ⟨w.heap.size, 0, none⟩) (by simp)).trans (by simp), (b3.cell (p := ⟨w.heap.size, 1, none⟩) (by simp)).trans (by simp), (b3.cell (p := ⟨w.heap.size, 2, none⟩) (by simp)).trans (by simp)⟩
set_option maxHeartbeats 2000000 in
theorem refProfile_any (u a v : Nat) (n : Int) (w : World) (ok : Ok u a v) :
    Calls Tryz.prog 83 #[.agg #[.int .i64 u, .int .i64 a, .int .i64 v], .int .i64 n] w fun e w' => ∃ x, e = .returned x ∧ w'.ownsRow w.heap.size 3 1 x (profI u a v n).length (ints (profI u a v n)) ∧ Below w.heap.size w w' := by
  by_cases hn : 1 ≤ n ∧ n ≤ 16
  · obtain ⟨m, rfl⟩ := Int.eq_ofNat_of_zero_le (show 0 ≤ n by omega)
    rw [profI_in (by omega) (by omega), prof_len]
    exact refProfile_in u a v m w ok (by omega) (by omega)
  · rw [profI_out (by omega)]
    have bb : Below w.heap.size w (w.alloc (.cells #[.int .i64 u, .int .i64 a, .int .i64 v] 121)) := (Below.refl _ _).alloc (Nat.le_refl _) _
    clear ok
    by_cases h1 : n < 1
    · go_enter Tryz.func83, Tryz.ntmps83
      go_wp2
      go_ret
      exact ⟨_, rfl, World.ownsRow_nil _ _ _ _, bb⟩
    · have h2 : 16 < n := by omega
      have h3 : decide (n < 1) = false := decide_eq_false h1
      go_enter Tryz.func83, Tryz.ntmps83
      go_wp2
      go_ret
      exact ⟨_, rfl, World.ownsRow_nil _ _ _ _, bb⟩
set_option maxHeartbeats 2000000 in
theorem refTime_any (u a v : Nat) (n : Int) (w : World) (ok : Ok u a v) :
    Calls Tryz.prog 65 #[.agg #[.int .i64 u, .int .i64 a, .int .i64 v], .int .i64 n] w fun e w' => e = .returned (.int .i64 ((profI u a v n).length : Nat)) ∧ Below w.heap.size w w' := by
  have cP := fun w1 => refProfile_any u a v n w1 ok
  generalize (profI u a v n).length = k at *
  generalize ints (profI u a v n) = xs at *
  have bb : Below w.heap.size w (w.alloc (.cells #[.int .i64 u, .int .i64 a, .int .i64 v] 121)) := (Below.refl _ _).alloc (Nat.le_refl _) _
  go_enter Tryz.func65, Tryz.ntmps65
  go_wp2_with (go_at_call 83; refine (cP _).mono ?_; rintro e w3 ⟨x, rfl, r3, b3⟩; obtain ⟨xa, xc, rfl, _⟩ := own_form r3)
  go_ret
  exact ⟨rfl, bb.trans (b3.mono bb.size)⟩
set_option maxHeartbeats 4000000 in
theorem refAt_any (u a v : Nat) (n t : Int) (w : World) (ok : Ok u a v) :
    Calls Tryz.prog 96 #[.agg #[.int .i64 u, .int .i64 a, .int .i64 v], .int .i64 n, .int .i64 t] w fun e w' => e = .returned (.int .i64 (atI u a v n t : Nat)) ∧ Below w.heap.size w w' := by
  have cP := fun w1 => refProfile_any u a v n w1 ok
  have bb : Below w.heap.size w (w.alloc (.cells #[.int .i64 u, .int .i64 a, .int .i64 v] 121)) := (Below.refl _ _).alloc (Nat.le_refl _) _
  by_cases ht : t < 1
  · rw [atI_low ht]
    generalize (profI u a v n).length = k at *
    generalize ints (profI u a v n) = xs at *
    go_enter Tryz.func96, Tryz.ntmps96
    go_wp2_with (go_at_call 83; refine (cP _).mono ?_; rintro e w3 ⟨x, rfl, r3, b3⟩; obtain ⟨xa, xc, rfl, _⟩ := own_form r3)
    go_ret
    exact ⟨rfl, bb.trans (b3.mono bb.size)⟩
  · have hd1 : decide (t < 1) = false := decide_eq_false ht
    by_cases h0 : (profI u a v n).length = 0
    · have e0 : atI u a v n t = 0 := atI_out ((prof_zero ok).1 h0)
      rw [e0]
      rw [h0] at cP
      generalize ints (profI u a v n) = xs at *
      clear h0 e0
      go_enter Tryz.func96, Tryz.ntmps96
      go_wp2_with (go_at_call 83; refine (cP _).mono ?_; rintro e w3 ⟨x, rfl, r3, b3⟩; obtain ⟨xa, xc, rfl, _⟩ := own_form r3)
      go_ret
      exact ⟨rfl, bb.trans (b3.mono bb.size)⟩
    · have hn := (not_congr (prof_zero ok)).1 h0
      obtain ⟨m, rfl⟩ := Int.eq_ofNat_of_zero_le (show 0 ≤ n by omega)
      obtain ⟨T, rfl⟩ := Int.eq_ofNat_of_zero_le (show 0 ≤ t by omega)
      rw [atI_in ok (by omega) (by omega)]
      have hl := spd_bd ok (n := m) (by omega) (by omega)
      rw [timeI (by omega) (by omega), profI_in (by omega) (by omega)] at cP
      have hd2 : (((spd u a v m).length : Int) == 0) = false := by rw [beq_eq_false_iff_ne]; omega
      have hnu := mul_small (n := m) (by omega) ok.u2
      obtain ⟨X, hX⟩ : ∃ X, m * u = X := ⟨_, rfl⟩
      have eX : (m : Int) * (u : Int) = (X : Int) := by rw [← Int.natCast_mul, hX]
      rw [hX] at hnu
      by_cases hle : (spd u a v m).length ≤ T
      · have e0 : pos u a v m T = X := by rw [← hX]; exact pos_end ok.a1 ok.v1 hle
        rw [e0]
        generalize (spd u a v m).length = k at *
        generalize ints (prof u a v m) = xs at *
        have hle2 : (k : Int) ≤ T := by omega
        clear e0 hX
        go_enter Tryz.func96, Tryz.ntmps96
        go_wp2_with (go_at_call 83; refine (cP _).mono ?_; rintro e w3 ⟨x, rfl, r3, b3⟩; obtain ⟨xa, xc, rfl, _⟩ := own_form r3; have c0 := (box_cell b3).1)
        go_ret
        exact ⟨rfl, bb.trans (b3.mono bb.size)⟩
      · obtain ⟨j, rfl⟩ : ∃ j, T = j + 1 := ⟨T - 1, by omega⟩
        have cP' : ∀ w1 : World, Calls Tryz.prog 83 #[.agg #[.int .i64 u, .int .i64 a, .int .i64 v], .int .i64 m] w1 fun e w' => ∃ g c, e = .returned (.slice (some ⟨g, 0, none⟩) (spd u a v m).length c) ∧ w'.cell? ⟨g, j, none⟩ = some (.int .i64 (pos u a v m (j + 1) : Nat)) ∧ Below w1.heap.size w1 w' := by
          intro w1
          refine (cP w1).mono ?_
          rintro e w' ⟨x, rfl, r1, b1⟩
          rcases r1.2 with ⟨_, q⟩ | ⟨g, c, cur, rfl, _⟩
          · omega
          · refine ⟨g, c, rfl, ?_, b1⟩
            rw [r1.cellAt j (by omega)]
            unfold ints
            rw [List.getElem?_map, prof_get (by omega)]
            rfl
        generalize pos u a v m (j + 1) = z at *
        generalize (spd u a v m).length = k at *
        have hle2 : ¬ ((k : Int) ≤ (j : Int) + 1) := by omega
        have hd3 : decide ((j : Int) + 1 < 1) = false := decide_eq_false (by omega)
        clear cP hX ok
        go_enter Tryz.func96, Tryz.ntmps96
        go_wp2_with (go_at_call 83; refine (cP' _).mono ?_; rintro e w3 ⟨g, c, rfl, cz, b3⟩)
        go_ret
        exact ⟨rfl, bb.trans (b3.mono bb.size)⟩
set_option maxHeartbeats 4000000 in
theorem refSpeed_any (u a v : Nat) (n t : Int) (w : World) (ok : Ok u a v) (ht2 : t ≤ 9223372036854775807) :
    Calls Tryz.prog 97 #[.agg #[.int .i64 u, .int .i64 a, .int .i64 v], .int .i64 n, .int .i64 t] w fun e w' => e = .returned (.int .i64 (velI u a v n t : Nat)) ∧ Below w.heap.size w w' := by
  have bb : Below w.heap.size w (w.alloc (.cells #[.int .i64 u, .int .i64 a, .int .i64 v] 121)) := (Below.refl _ _).alloc (Nat.le_refl _) _
  by_cases ht : t < 1
  · have e : velI u a v n t = 0 := if_pos ht
    rw [e]
    go_enter Tryz.func97, Tryz.ntmps97
    go_wp2
    go_ret
    exact ⟨rfl, bb⟩
  · have e : velI u a v n t = atI u a v n t - atI u a v n (t - 1) := if_neg ht
    have hm := atI_mono ok n (show t - 1 ≤ t by omega)
    have hb := (atI_le ok n t).2
    have c1 := fun w1 => refAt_any u a v n t w1 ok
    have c2 := fun w1 => refAt_any u a v n (t - 1) w1 ok
    rw [e]
    generalize atI u a v n t = p at *
    generalize atI u a v n (t - 1) = q at *
    clear e
    obtain ⟨s, hs⟩ : ∃ s, t - 1 = s := ⟨_, rfl⟩
    rw [hs] at c2
    go_enter Tryz.func97, Tryz.ntmps97
    go_wp2
    obtain ⟨w2, hw2⟩ : ∃ w2, w.alloc (.cells #[.int .i64 u, .int .i64 a, .int .i64 v] 121) = w2 := ⟨_, rfl⟩
    have hC : w2.heap[w.heap.size]? = some (.cells #[.int .i64 u, .int .i64 a, .int .i64 v] 121 (0, 0)) := by rw [← hw2]; exact World.alloc_heap_new _ _
    rw [hw2] at bb ⊢
    clear hw2
    have lt2 : w.heap.size < w2.heap.size := (Array.getElem?_eq_some_iff.1 hC).1
    have cz : ∀ (z : Cls (fun w' => Below w2.heap.size w2 w')) (o : Nat), z.w.cell? ⟨w.heap.size, o, none⟩ = w2.cell? ⟨w.heap.size, o, none⟩ := fun z o => cell_same (z.h.block _ lt2)
    have d0 : ∀ (z : Cls (fun w' => Below w2.heap.size w2 w')), z.w.cell? ⟨w.heap.size, 0, none⟩ = some (.int .i64 u) := fun z => (cz z 0).trans (cell_of hC 0)
    have d1 : ∀ (z : Cls (fun w' => Below w2.heap.size w2 w')), z.w.cell? ⟨w.heap.size, 1, none⟩ = some (.int .i64 a) := fun z => (cz z 1).trans (cell_of hC 1)
    have d2 : ∀ (z : Cls (fun w' => Below w2.heap.size w2 w')), z.w.cell? ⟨w.heap.size, 2, none⟩ = some (.int .i64 v) := fun z => (cz z 2).trans (cell_of hC 2)
    have ne : Nonempty (Cls (fun w' => Below w2.heap.size w2 w')) := ⟨⟨w2, Below.refl _ _⟩⟩
    clear cz
    refine wp_region_cls (fun w' => Below w2.heap.size w2 w') (by kernel_rfl) (by kernel_rfl) (Below.refl _ _).drew ?_
    repeat (go_big_quiet_step (first | (go_at_call_of 96 t; exact cls_call (c1 _) (fun w' hw => bcat (Cls.h _) hw)) | (go_at_call_of 96 s; exact cls_call (c2 _) (fun w' hw => bcat (Cls.h _) hw))))
    refine wpQuiet_nil ?_
    rintro z ⟨⟨_, bz⟩, rfl⟩
    clear d0 d1 d2 ne
    go_wp2
    go_ret
    exact ⟨ret_int (by omega), bb.trans (bz.mono bb.size)⟩
end Go.Proofs.YtedhoghleelhfaaGreat.Kin
namespace Go.Proofs.YtedhoghleelhfaaGreat.Kin
set_option linter.unusedVariables false
set_option linter.unusedSimpArgs false
open Go Go.RowKit Go.Shelf Go.Proofs
attribute [local go_sem] Oper.semAt_some

set_option maxHeartbeats 2000000 in
theorem refStop_low (u a v : Nat) (n t : Int) (w : World) (ok : Ok u a v) (ht : t < 1 ∨ (profI u a v n).length = 0) :
    Calls Tryz.prog 80 #[.agg #[.int .i64 u, .int .i64 a, .int .i64 v], .int .i64 n, .int .i64 t] w fun e w' => e = .returned (.tuple #[.int .i64 0, .int .i64 0]) ∧ Below w.heap.size w w' := by
  have cP := fun w1 => refProfile_any u a v n w1 ok
  have bb : Below w.heap.size w (w.alloc (.cells #[.int .i64 u, .int .i64 a, .int .i64 v] 121)) := (Below.refl _ _).alloc (Nat.le_refl _) _
  by_cases h1 : t < 1
  · generalize (profI u a v n).length = k at *
    generalize ints (profI u a v n) = xs at *
    clear ht
    go_enter Tryz.func80, Tryz.ntmps80
    go_wp2_with (go_at_call 83; refine (cP _).mono ?_; rintro e w3 ⟨x, rfl, r3, b3⟩; obtain ⟨xa, xc, rfl, _⟩ := own_form r3; obtain ⟨c0, c1, c2⟩ := box_cell b3)
    go_ret2
    exact ⟨rfl, bb.trans (b3.mono bb.size)⟩
  · have h0 : (profI u a v n).length = 0 := by rcases ht with h | h <;> first | exact (h1 h).elim | exact h
    have hd1 : decide (t < 1) = false := decide_eq_false h1
    rw [h0] at cP
    generalize ints (profI u a v n) = xs at *
    clear ht h0
    go_enter Tryz.func80, Tryz.ntmps80
    go_wp2_with (go_at_call 83; refine (cP _).mono ?_; rintro e w3 ⟨x, rfl, r3, b3⟩; obtain ⟨xa, xc, rfl, _⟩ := own_form r3; obtain ⟨c0, c1, c2⟩ := box_cell b3)
    go_ret2
    exact ⟨rfl, bb.trans (b3.mono bb.size)⟩
set_option maxHeartbeats 2000000 in
theorem refStop_end (u a v : Nat) (n t : Int) (w : World) (ok : Ok u a v) (ht : ¬ t < 1) (h0 : (profI u a v n).length ≠ 0) (hl : ((profI u a v n).length : Int) ≤ t) :
    Calls Tryz.prog 80 #[.agg #[.int .i64 u, .int .i64 a, .int .i64 v], .int .i64 n, .int .i64 t] w fun e w' => e = .returned (.tuple #[.int .i64 n, .int .i64 0]) ∧ Below w.heap.size w w' := by
  have cP := fun w1 => refProfile_any u a v n w1 ok
  have bb : Below w.heap.size w (w.alloc (.cells #[.int .i64 u, .int .i64 a, .int .i64 v] 121)) := (Below.refl _ _).alloc (Nat.le_refl _) _
  have hd1 : decide (t < 1) = false := decide_eq_false ht
  generalize (profI u a v n).length = k at *
  generalize ints (profI u a v n) = xs at *
  have hd2 : ((k : Int) == 0) = false := by rw [beq_eq_false_iff_ne]; omega
  go_enter Tryz.func80, Tryz.ntmps80
  go_wp2_with (go_at_call 83; refine (cP _).mono ?_; rintro e w3 ⟨x, rfl, r3, b3⟩; obtain ⟨xa, xc, rfl, _⟩ := own_form r3; obtain ⟨c0, c1, c2⟩ := box_cell b3)
  go_ret2
  exact ⟨rfl, bb.trans (b3.mono bb.size)⟩
set_option maxRecDepth 100000 in
set_option maxHeartbeats 4000000 in
theorem refStop_mid (u a v : Nat) (n t : Int) (w : World) (ok : Ok u a v) (ht : ¬ t < 1) (ht2 : t ≤ 9223372036854775807) (h0 : (profI u a v n).length ≠ 0) (hl : ¬ ((profI u a v n).length : Int) ≤ t) (p s : Nat) (hp : atI u a v n t = p) (hs : velI u a v n t = s) (hp2 : p ≤ 16000) (hs1 : 1 ≤ s) (hsv : s ≤ v) :
    Calls Tryz.prog 80 #[.agg #[.int .i64 u, .int .i64 a, .int .i64 v], .int .i64 n, .int .i64 t] w fun e w' => e = .returned (.tuple #[.int .i64 (cellsS u a p s : Nat), .int .i64 (ticksS u a v p s : Nat)]) ∧ Below w.heap.size w w' := by
  have cP := fun w1 => refProfile_any u a v n w1 ok
  have cA := fun w1 => refAt_any u a v n t w1 ok
  have cS := fun w1 => refSpeed_any u a v n t w1 ok ht2
  rw [hp] at cA
  rw [hs] at cS
  have bb : Below w.heap.size w (w.alloc (.cells #[.int .i64 u, .int .i64 a, .int .i64 v] 121)) := (Below.refl _ _).alloc (Nat.le_refl _) _
  have hd1 : decide (t < 1) = false := decide_eq_false ht
  generalize (profI u a v n).length = k at *
  generalize ints (profI u a v n) = xs at *
  have hd2 : ((k : Int) == 0) = false := by rw [beq_eq_false_iff_ne]; omega
  have hl2 : t < (k : Int) := by omega
  obtain ⟨u1, u2, a1, a2, v1, v2⟩ := ok
  have hu0 : ¬ (u : Int) = 0 := by omega
  have hB := brk_bound (m := 1000) a1 (show s ≤ 1000 by omega)
  obtain ⟨q1, q2⟩ := cells_bd (u := u) (a := a) (p := p) (s := s) u1
  have cB := fun w1 => refbrake_any u a v s w1 a1 a2 (by omega)
  have EC : Hid (((p : Int) + (brk a s : Nat) + u - 1) / u = (cellsS u a p s : Nat)) := by
    unfold Hid cellsS
    rw [Int.natCast_ediv]
    congr 1
    omega
  obtain ⟨r, hr⟩ : ∃ r, runs a v 0 (cellsS u a p s * u - p) s = r := ⟨_, rfl⟩
  have hrl : r.length ≤ cellsS u a p s * u - p := by rw [← hr]; exact (runs_len a1 v1 (by omega)).1
  have ET : Hid (ticksS u a v p s = r.length) := by unfold Hid ticksS; rw [hr]
  have hsum : r.sum = cellsS u a p s * u - p := by rw [← hr]; exact runs_sum a1 v1 _ _ (by omega)
  have hnx : ∀ i, i < r.length → r.getD i 0 = nxt a (cellsS u a p s * u - p - (r.take i).sum) (min (ahead s r i) v) := by
    intro i hi
    have := runs_nxt (a := a) (v := v) (rise := 0) (left := cellsS u a p s * u - p) (s := s) (i := i) a1 v1 (by omega) (by rw [hr]; exact hi)
    rw [hr, Nat.add_zero] at this
    exact this
  have hst : ∀ i, i < r.length → Step a v 0 (cellsS u a p s * u - p - (r.take i).sum) (ahead s r i) (r.getD i 0) := by
    intro i hi
    have := runs_step (a := a) (v := v) (rise := 0) (left := cellsS u a p s * u - p) (s := s) (i := i) a1 v1 (by omega) (by rw [hr]; exact hi)
    rw [hr] at this
    exact this
  have hah : ∀ i, i ≤ r.length → 1 ≤ ahead s r i ∧ ahead s r i ≤ v := by
    intro i hi
    unfold ahead
    by_cases h : i = 0
    · rw [if_pos h]; omega
    · rw [if_neg h]
      have := hst (i - 1) (by omega)
      exact ⟨this.pos, this.top⟩
  generalize brk a s = B at *
  generalize cellsS u a p s = C at *
  generalize ticksS u a v p s = T at *
  have HN : Hid (∀ i, i < r.length → r.getD i 0 = nxt a (C * u - p - (r.take i).sum) (min (ahead s r i) v)) := hnx
  have HT : Hid (∀ i, i < r.length → Step a v 0 (C * u - p - (r.take i).sum) (ahead s r i) (r.getD i 0)) := hst
  have HA : Hid (∀ i, i ≤ r.length → 1 ≤ ahead s r i ∧ ahead s r i ≤ v) := hah
  have HS : Hid (r.sum = C * u - p) := hsum
  clear hnx hst hah hsum hr hp hs
  obtain ⟨X, hX⟩ : ∃ X, C * u = X := ⟨_, rfl⟩
  have eX : (C : Int) * (u : Int) = (X : Int) := by rw [← Int.natCast_mul, hX]
  have hX2 : X ≤ 2000000 := by omega
  rw [hX] at q1 q2 HN HT HS hrl
  replace hrl : r.length ≤ 2000000 := by omega
  clear hX
  go_enter Tryz.func80, Tryz.ntmps80
  go_wp2_with (first
    | (go_at_call 83; refine (cP _).mono ?_; rintro e w3 ⟨x, rfl, r3, b3⟩; obtain ⟨xa, xc, rfl, _⟩ := own_form r3; obtain ⟨c0, c1, c2⟩ := box_cell b3)
    | (go_at_call 96; refine (cA _).mono ?_; rintro e w4 ⟨rfl, b4⟩; have b34 := bcat (by exact b3) b4; obtain ⟨c0, c1, c2⟩ := box_cell b34)
    | (go_at_call 97; refine (cS _).mono ?_; rintro e w5 ⟨rfl, b5⟩; have b35 := bcat b34 b5))
  have lt2 : w.heap.size < (w.alloc (.cells #[.int .i64 u, .int .i64 a, .int .i64 v] 121)).heap.size := by simp
  obtain ⟨d0, d1, d2⟩ := box_cell b35
  have lw5 : w.heap.size < w5.heap.size := World.block_lt_of_cell? w5 _ d0
  have y0 : ∀ (z : Cls (fun w' => Below w5.heap.size w5 w')), z.w.cell? ⟨w.heap.size, 0, none⟩ = some (.int .i64 u) := fun z => (z.h.cell (p := ⟨w.heap.size, 0, none⟩) lw5).trans d0
  have y1 : ∀ (z : Cls (fun w' => Below w5.heap.size w5 w')), z.w.cell? ⟨w.heap.size, 1, none⟩ = some (.int .i64 a) := fun z => (z.h.cell (p := ⟨w.heap.size, 1, none⟩) lw5).trans d1
  have y2 : ∀ (z : Cls (fun w' => Below w5.heap.size w5 w')), z.w.cell? ⟨w.heap.size, 2, none⟩ = some (.int .i64 v) := fun z => (z.h.cell (p := ⟨w.heap.size, 2, none⟩) lw5).trans d2
  have ne : Nonempty (Cls (fun w' => Below w5.heap.size w5 w')) := ⟨⟨w5, Below.refl _ _⟩⟩
  refine wp_region_cls (fun w' => Below w5.heap.size w5 w') (by kernel_rfl) (by kernel_rfl) (Below.refl _ _).drew ?_
  repeat (go_big_quiet_step ((go_at_call 98; exact cls_call (cB _) (fun w' hw => bcat (Cls.h _) hw))))
  refine wpQuiet_nil ?_
  rintro w6 ⟨⟨_, b6⟩, rfl⟩
  rw [EC.out]
  have b36 := bcat b35 b6
  clear y0 y1 y2 ne EC d0 d1 d2 c0 c1 c2 b3 b4 b34 b5 b35 cA cS cB cP
  go_wp2
  go_loopw [9, 10, 12] (fun P S K wr => ∃ j : Nat, j ≤ r.length ∧ P = .int .i64 (p + (r.take j).sum : Nat) ∧ S = .int .i64 (ahead s r j : Nat) ∧ K = .int .i64 j ∧ Below (w.alloc (.cells #[.int .i64 u, .int .i64 a, .int .i64 v] 121)).heap.size (w.alloc (.cells #[.int .i64 u, .int .i64 a, .int .i64 v] 121)) wr) (fun P S K wr => r.length - (intOf K).toNat)
  case atStart => exact ⟨0, Nat.zero_le _, by simp, by simp [ahead], rfl, b36⟩
  case round =>
    obtain ⟨j, hj, rfl, rfl, rfl, hb⟩ := hrel
    obtain ⟨c0, c1, c2⟩ := box_cell hb
    have ha := HA.out j hj
    have htl := take_sum_le r j
    rw [HS.out] at htl
    by_cases hlt : j < r.length
    · have st := HT.out j hlt
      have g1 := st.pos
      have g2 := st.le
      have g3 := st.top
      have e1 := take_succ_sum hlt
      have e2 := HN.out j hlt
      have e3 : ahead s r (j + 1) = r.getD j 0 := by unfold ahead; rw [if_neg (by omega)]; rfl
      have cN := refnext_any u a v (X - p - (r.take j).sum) (ahead s r j) (ahead s r j) wr a1 a2 (by omega) (by omega) (by omega) ha.1 (by omega)
      rw [show min (ahead s r j + a) (ahead s r j) = min (ahead s r j) v by omega, ← e2, ← e3] at cN
      have ex : ((X - p - (r.take j).sum : Nat) : Int) = (X : Int) - ((p + (r.take j).sum : Nat) : Int) := by omega
      rw [ex] at cN
      have HE : Hid ((p + (r.take j).sum) + ahead s r (j + 1) = p + (r.take (j + 1)).sum) := by unfold Hid; rw [e1, e3]; omega
      have hP : p + (r.take j).sum < X := by omega
      rw [← e3] at g1 g3
      clear st e1 e2 e3 ex htl
      generalize hPP : p + (r.take j).sum = PP at *
      generalize hSS : ahead s r (j + 1) = S1 at *
      generalize ahead s r j = S0 at *
      have ES : Hid (ahead s r (j + 1) = S1) := hSS
      clear hPP hSS
      have hP' : (PP : Int) < X := by omega
      go_wp2_with (go_at_call 99; refine cN.mono ?_; rintro e w7 ⟨rfl, b7⟩)
      go_roundw
      case rel => exact ⟨j + 1, by omega, congrArg (Value.int IntKind.i64) (by have := HE.out; omega), by rw [ES.out], by go_num, bcat hb b7⟩
      case measure => simp [intOf]; omega
    · obtain rfl : j = r.length := by omega
      rw [List.take_length, HS.out, show p + (X - p) = X by omega, ← ET.out]
      go_wp2
      go_ret2
      exact ⟨rfl, bb.trans (hb.mono bb.size)⟩
theorem refStop_any (u a v : Nat) (n t : Int) (w : World) (ok : Ok u a v) (ht2 : t ≤ 9223372036854775807) :
    Calls Tryz.prog 80 #[.agg #[.int .i64 u, .int .i64 a, .int .i64 v], .int .i64 n, .int .i64 t] w fun e w' => e = .returned (.tuple #[.int .i64 (stopC u a v n t : Nat), .int .i64 (stopT u a v n t : Nat)]) ∧ Below w.heap.size w w' := by
  unfold stopC stopT
  by_cases h1 : t < 1 ∨ (profI u a v n).length = 0
  · rw [if_pos h1, if_pos h1]
    exact refStop_low u a v n t w ok h1
  · rw [if_neg h1, if_neg h1]
    have hz : ¬ (profI u a v n).length = 0 := fun e => h1 (Or.inr e)
    have hn := (not_congr (prof_zero ok)).1 hz
    have ht : ¬ t < 1 := fun e => h1 (Or.inl e)
    by_cases h2 : ((profI u a v n).length : Int) ≤ t
    · rw [if_pos h2, if_pos h2]
      have := refStop_end u a v n t w ok ht hz h2
      rw [show ((n.toNat : Nat) : Int) = n by omega]
      exact this
    · rw [if_neg h2, if_neg h2]
      have hv : 1 ≤ velI u a v n t ∧ velI u a v n t ≤ v := by
        obtain ⟨m, rfl⟩ := Int.eq_ofNat_of_zero_le (show 0 ≤ n by omega)
        obtain ⟨t', rfl⟩ := Int.eq_ofNat_of_zero_le (show 0 ≤ t by omega)
        rw [velI_in ok (by omega) (by omega)]
        rw [profI_in (by omega) (by omega), prof_len] at h2
        exact vel_bd ok (by omega) (by omega)
      exact refStop_mid u a v n t w ok ht ht2 hz h2 _ _ rfl rfl (atI_le ok n t).2 hv.1 hv.2
end Go.Proofs.YtedhoghleelhfaaGreat.Kin
