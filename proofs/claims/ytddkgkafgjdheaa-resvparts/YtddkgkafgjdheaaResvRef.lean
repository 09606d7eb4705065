/-
  The chapter's own table: there, met, put.
-/
import Derived.Test.YtddkgkafgjdheaaResvRel
namespace Go.Proofs.Ytddkgkafgjdheaa.Rs
set_option linter.unusedVariables false
set_option linter.unusedSimpArgs false
open Go Go.RowKit Go.Shelf Go.Proofs Hp
attribute [local go_sem] Oper.semAt_some

theorem rthere_any (F : Nat → Prop) (b : Nat) (ls : List (List Sl)) (c : Int) (w : World) (h : TAt F w b ls) : Calls Try.prog 55 #[.pointer (some ⟨b, 0, none⟩), .int .i64 c] w fun e w' => e = .returned (.bool (isThere ls.length c)) ∧ w' = w := by
  obtain ⟨v, vals, h⟩ := h
  obtain ⟨a, cap, rfl, _⟩ := own_form h.row
  have hd := h.head
  have ht : isThere ls.length c = (decide (0 ≤ c) && decide (c < (ls.length : Int))) := rfl
  generalize isThere ls.length c = r at *
  generalize ls.length = n at *
  clear h
  by_cases h0 : 0 ≤ c
  · by_cases h1 : c < (n : Int)
    · obtain rfl : r = true := by rw [ht]; simp [h0, h1]
      clear ht
      go_enter Try.func55, Try.ntmps55
      go_wp2
      go_ret
      exact ⟨rfl, rfl⟩
    · obtain rfl : r = false := by rw [ht]; simp [h1]
      clear ht
      have h2 : decide (c < (n : Int)) = false := decide_eq_false h1
      go_enter Try.func55, Try.ntmps55
      go_wp2
      go_ret
      first | exact ⟨rfl, rfl⟩ | exact ⟨ret_bool h2, rfl⟩
  · obtain rfl : r = false := by rw [ht]; simp [h0]
    clear ht
    go_enter Try.func55, Try.ntmps55
    go_wp2
    go_ret
    exact ⟨rfl, rfl⟩
def meets (R f t : Int) (s : Sl) : Bool := decide (s.r ≠ R) && decide (s.f < t) && decide (f < s.t)
def metB (l : List Sl) (R f t : Int) : Bool := l.any (meets R f t)
theorem metB_iff {l : List Sl} {R f t : Int} : metB l R f t = true ↔ Met l R [⟨f, t, R⟩] := by
  unfold metB
  rw [List.any_eq_true]
  constructor
  · rintro ⟨s, hs, h⟩
    simp [meets] at h
    exact ⟨s, hs, _, List.mem_singleton.2 rfl, h.1.1, h.1.2, h.2⟩
  · rintro ⟨s, hs, m, hm, h1, h2, h3⟩
    rw [List.mem_singleton] at hm
    subst hm
    exact ⟨s, hs, by simp [meets]; exact ⟨⟨h1, h2⟩, h3⟩⟩
theorem any_take_sl (p : Sl → Bool) (l : List Sl) (i : Nat) (hi : i < l.length) (h0 : (l.take i).any p = false) : (l.take (i + 1)).any p = p l[i] := by
  rw [List.take_succ_eq_append_getElem hi, List.any_append, h0]; simp
set_option maxRecDepth 100000 in
set_option maxHeartbeats 2000000 in
theorem met_any (F : Nat → Prop) (b : Nat) (ls : List (List Sl)) (R : Int) (i : Nat) (hi : i < ls.length) (f t : Int) (w : World) (h : TAt F w b ls) (hm : (ls[i]).length ≤ 1000000000) :
    Calls Try.prog 57 #[.pointer (some ⟨b, 0, none⟩), .int .i64 R, .int .i64 (i : Nat), .int .i64 f, .int .i64 t] w fun e w' => e = .returned (.bool (metB ls[i] R f t)) ∧ w' = w := by
  obtain ⟨v, vals, TI⟩ := h
  obtain ⟨g, cap, ev, _, _, _, _, _, _, hcell⟩ := TI.form (by omega)
  have hd := TI.head
  have hiv : i < vals.length := by rw [TI.len]; exact hi
  have hc := hcell i hiv
  have RO := TI.each i hi hiv
  obtain ⟨ra, rn, rc, er⟩ := RO.shape
  rw [ev] at hd
  rw [er] at hc RO
  obtain ⟨l, hl⟩ : ∃ l, ls[i] = l := ⟨_, rfl⟩
  rw [hl] at RO hm ⊢
  have hlen : rn = l.length := by obtain ⟨y1, y2, y3, _⟩ := RO.form; injection y3
  subst hlen
  have HRO : Hid (RowAt slL (fun k => F k ∧ k ≠ b ∧ v.ownBlock ≠ some k) w (.slice ra l.length rc) l) := RO
  have hi' : (i : Int) < (ls.length : Int) := by omega
  obtain ⟨r, hr⟩ : ∃ r, metB l R f t = r := ⟨_, rfl⟩
  rw [hr]
  have HRr : Hid (metB l R f t = r) := hr
  clear hcell TI er RO hl hr
  go_enter Try.func57, Try.ntmps57
  go_wp2_with fail
  go_loopw [12] (fun s12 wr => ∃ j : Nat, s12 = .int .i64 j ∧ j ≤ l.length ∧ wr = w ∧ Hid ((l.take j).any (meets R f t) = false)) (fun s12 _ => l.length - (intOf s12).toNat)
  case atStart => exact ⟨0, rfl, Nat.zero_le _, rfl, by unfold Hid; simp⟩
  case round =>
    obtain ⟨j, rfl, hj, rfl, hA⟩ := hrel
    rcases Nat.lt_or_ge j l.length with hlt | hge
    · obtain ⟨g2, o2, c2, e2, k0, k1, k2⟩ := box_item HRO.out j hlt
      cases e2
      have j1 : (j : Int) < (l.length : Int) := by omega
      have j2 : (j : Int) + 1 ≤ 1000000000 := by omega
      have hS : Hid ((l.take (j + 1)).any (meets R f t) = meets R f t l[j]) := any_take_sl _ l j hlt hA.out
      have hE : Hid (meets R f t l[j] = true → metB l R f t = true) := fun q => List.any_eq_true.2 ⟨l[j], List.getElem_mem _, q⟩
      obtain ⟨s, hs⟩ : ∃ s, l[j] = s := ⟨_, rfl⟩
      rw [hs] at k0 k1 k2 hS hE
      clear hs
      by_cases r1 : s.r = R
      · have d1 : (s.r != R) = false := by simp [r1]
        have hN : Hid ((l.take (j + 1)).any (meets R f t) = false) := by unfold Hid; rw [hS.out]; simp [meets, r1]
        clear r1
        go_wp2_with fail
        go_roundw
        case measure => simp only [intOf]; omega
        case rel => exact ⟨j + 1, rfl, hlt, trivial, hN⟩
      · have d1 : (s.r != R) = true := by simp [r1]
        by_cases r2 : s.f < t
        · by_cases r3 : f < s.t
          · have hY : Hid (r = true) := by unfold Hid; rw [← HRr.out]; exact hE.out (by simp [meets, r1, r2, r3])
            clear r1
            go_wp2
            go_ret
            exact ⟨ret_bool hY.out.symm, rfl⟩
          · have hN : Hid ((l.take (j + 1)).any (meets R f t) = false) := by unfold Hid; rw [hS.out]; simp [meets, r3]
            have d3 : decide (f < s.t) = false := decide_eq_false r3
            clear r1 r3
            go_wp2_with fail
            go_roundw
            case measure => simp only [intOf]; omega
            case rel => exact ⟨j + 1, rfl, hlt, trivial, hN⟩
        · have hN : Hid ((l.take (j + 1)).any (meets R f t) = false) := by unfold Hid; rw [hS.out]; simp [meets, r2]
          have d2 : decide (s.f < t) = false := decide_eq_false r2
          clear r1 r2
          go_wp2_with fail
          go_roundw
          case measure => simp only [intOf]; omega
          case rel => exact ⟨j + 1, rfl, hlt, trivial, hN⟩
    · obtain rfl : j = l.length := by omega
      have hY : Hid (r = false) := by unfold Hid; rw [← HRr.out]; have := hA.out; rw [List.take_length] at this; exact this
      go_wp2
      go_ret
      exact ⟨ret_bool hY.out.symm, rfl⟩
set_option maxRecDepth 100000 in
set_option maxHeartbeats 4000000 in
theorem put_any (F : Nat → Prop) (b : Nat) (ls : List (List Sl)) (R : Int) (i : Nat) (hi : i < ls.length) (f t : Int) (w : World) (h : TAt F w b ls) (hok : Ok ls[i]) (hfx : Fit ⟨f, t, R⟩) (hmt : ¬ Met ls[i] R [⟨f, t, R⟩]) (hm : (ls[i]).length ≤ 999999999) :
    Calls Try.prog 58 #[.pointer (some ⟨b, 0, none⟩), .int .i64 R, .int .i64 (i : Nat), .int .i64 f, .int .i64 t] w fun e w' => e = .returned (.tuple #[]) ∧ ∃ F' l', TAt F' w' b (ls.set i l') ∧ Tn F F' w w' ∧ With ls[i] [⟨f, t, R⟩] l' := by
  obtain ⟨v, vals, TI⟩ := h
  obtain ⟨g, cap, ev, _, hFg, hgl, _, _, hfz, hcell⟩ := TI.form (by omega)
  have hvg : v.ownBlock = some g := by rw [ev]; rfl
  have hd := TI.head
  have hiv : i < vals.length := by rw [TI.len]; exact hi
  have hc := hcell i hiv
  have hfi := hfz i
  have hbl := TI.low b TI.hb
  have RO := TI.each i hi hiv
  obtain ⟨ra, rn, rc, er⟩ := RO.shape
  rw [ev] at hd
  rw [er] at hc RO
  obtain ⟨l, hl⟩ : ∃ l, ls[i] = l := ⟨_, rfl⟩
  rw [hl] at RO hm hok hmt ⊢
  have hlen : rn = l.length := by obtain ⟨y1, y2, y3, _⟩ := RO.form; injection y3
  subst hlen
  have HRO : Hid (RowAt slL (fun k => F k ∧ k ≠ b ∧ v.ownBlock ≠ some k) w (.slice ra l.length rc) l) := RO
  have HTI : Hid (TIn F w b v vals ls) := TI
  have hi' : (i : Int) < (ls.length : Int) := by omega
  have HOK : Hid (Ok l) := hok
  have HFX : Hid (Fit ⟨f, t, R⟩) := hfx
  have HMT : Hid (¬ Met l R [⟨f, t, R⟩]) := hmt
  obtain ⟨W1, hW1⟩ : ∃ W1, w.alloc (.cells #[.int .i64 f, .int .i64 t, .int .i64 R] 40) = W1 := ⟨_, rfl⟩
  have b1 : Below w.heap.size w W1 := by rw [← hW1]; exact (Below.refl _ _).alloc (Nat.le_refl _) _
  have nW := cell_new w (.int .i64 f) (.int .i64 t) (.int .i64 R) 40
  rw [hW1] at nW
  obtain ⟨y0, y1, y2⟩ := nW
  have yf : ∀ o, W1.frozen? ⟨w.heap.size, o, none⟩ = false := fun o => by rw [← hW1]; simp
  have HW1 : Hid (w.alloc (.cells #[.int .i64 f, .int .i64 t, .int .i64 R] 40) = W1) := hW1
  clear hcell TI er RO hl hok hfx hmt hfz hW1
  go_enter Try.func58, Try.ntmps58
  go_wp2_with fail
  try rw [HW1.out]
  go_loopw [11, 12] (fun s11 s12 wr => ∃ (j : Nat) (x : Sl) (acc : List Sl), s12 = .int .i64 j ∧ j ≤ l.length ∧ Hid (wr.ownsRow (w.heap.size + 1) 40 3 s11 acc.length (rowL slL acc)) ∧ wr.cell? ⟨w.heap.size, 0, none⟩ = some (.int .i64 x.f) ∧ wr.cell? ⟨w.heap.size, 1, none⟩ = some (.int .i64 x.t) ∧ wr.cell? ⟨w.heap.size, 2, none⟩ = some (.int .i64 R) ∧ Hid (∀ o, wr.frozen? ⟨w.heap.size, o, none⟩ = false) ∧ Hid (scan R ⟨f, t, R⟩ l = ((scan R x (l.drop j)).1, acc ++ (scan R x (l.drop j)).2)) ∧ Hid (Below w.heap.size w wr) ∧ Hid (acc.length ≤ j) ∧ Hid (x.r = R)) (fun _ s12 _ => l.length - (intOf s12).toNat)
  case atStart => exact ⟨0, ⟨f, t, R⟩, [], rfl, Nat.zero_le _, World.ownsRow_nil _ _ _ _, y0, y1, y2, yf, by unfold Hid; simp, b1, Nat.le_refl _, rfl⟩
  case round =>
    clear y0 y1 y2 yf
    obtain ⟨j, x, acc, rfl, hj, O, x0, x1, x2, fz, HS, bw, hal, hxr⟩ := hrel
    obtain ⟨oa, oc, eo, _⟩ := own_form O.out
    have hq : w.heap.size < wr.heap.size := World.block_lt_of_cell? _ _ x0
    have hd3 : wr.cell? ⟨b, 0, none⟩ = some (.slice (some ⟨g, 0, none⟩) ls.length cap) := (cell_same (bw.out.block b hbl)).trans hd
    have hc3 : wr.cell? ⟨g, i, none⟩ = some (.slice ra l.length rc) := (cell_same (bw.out.block g hgl)).trans hc
    rcases Nat.lt_or_ge j l.length with hjl | hjg
    · obtain ⟨g2, o2, cap2, e2, c0, c1, c2⟩ := box_item (HRO.out.go slL_len bw.out) j hjl
      cases e2
      have hjl' : (j : Int) < (l.length : Int) := by omega
      have hjs : (j : Int) + 1 ≤ 1000000000 := by omega
      have hdd := drop_at hjl
      obtain ⟨s, hs'⟩ : ∃ s, l[j] = s := ⟨_, rfl⟩
      rw [hs'] at c0 c1 c2 hdd
      have HD : Hid (l.drop j = s :: l.drop (j + 1)) := hdd
      clear hs' hdd
      obtain ⟨w5, hw5⟩ : ∃ w5, wr.alloc (.cells #[.int .i64 s.f, .int .i64 s.t, .int .i64 s.r] 40) = w5 := ⟨_, rfl⟩
      have b5 : Below wr.heap.size wr w5 := by rw [← hw5]; exact (Below.refl _ _).alloc (Nat.le_refl _) _
      have n5 := cell_new wr (.int .i64 s.f) (.int .i64 s.t) (.int .i64 s.r) 40
      rw [hw5] at n5
      obtain ⟨n50, n51, n52⟩ := n5
      have q5 : w5.heap[w.heap.size]? = wr.heap[w.heap.size]? := b5.block _ hq
      have z0 : w5.cell? ⟨w.heap.size, 0, none⟩ = some (.int .i64 x.f) := (cell_same q5).trans x0
      have z1 : w5.cell? ⟨w.heap.size, 1, none⟩ = some (.int .i64 x.t) := (cell_same q5).trans x1
      have z2 : w5.cell? ⟨w.heap.size, 2, none⟩ = some (.int .i64 R) := (cell_same q5).trans x2
      have zf0 : w5.frozen? ⟨w.heap.size, 0, none⟩ = false := (frozen_same q5).trans (fz.out 0)
      have zf1 : w5.frozen? ⟨w.heap.size, 1, none⟩ = false := (frozen_same q5).trans (fz.out 1)
      have hqn : w.heap.size ≠ wr.heap.size := by omega
      have hqn2 : wr.heap.size ≠ w.heap.size := by omega
      by_cases r1 : s.r = R
      · have d1 : (s.r == R) = true := by simp [r1]
        by_cases r2 : s.f ≤ x.t
        · by_cases r3 : x.f ≤ s.t
          · have HSn : Hid (scan R ⟨f, t, R⟩ l = ((scan R ⟨min x.f s.f, max x.t s.t, R⟩ (l.drop (j + 1))).1, acc ++ (scan R ⟨min x.f s.f, max x.t s.t, R⟩ (l.drop (j + 1))).2)) := by unfold Hid; rw [HS.out, HD.out]; simp only [scan]; rw [if_pos ⟨r1, r2, r3⟩]
            have m1 : Hid ((w5.setCell ⟨w.heap.size, 0, none⟩ (.int .i64 (min x.f s.f))).cell? ⟨w.heap.size, 1, none⟩ = some (.int .i64 x.t)) := (World.cell?_setCell_other _ _ _ _ (by intro e; cases e)).trans z1
            have HSt : Hid (∀ k, k ≠ w.heap.size → ((w5.setCell ⟨w.heap.size, 0, none⟩ (.int .i64 (min x.f s.f))).setCell ⟨w.heap.size, 1, none⟩ (.int .i64 (max x.t s.t))).heap[k]? = w5.heap[k]?) := fun k hk => (Below.heap_setCell _ _ _ k hk).trans (Below.heap_setCell _ _ _ k hk)
            clear r1
            subst eo
            go_wp2_with fail
            go_roundw
            case measure => simp only [intOf]; omega
            case rel =>
              refine ⟨j + 1, ⟨min x.f s.f, max x.t s.t, R⟩, acc, rfl, hjl, ?_, ?_, ?_, ?_, ?_, HSn, ?_, by unfold Hid; have := hal.out; omega, rfl⟩
              · exact owns_same (owns_go O.out b5) fun k hk => HSt.out k (by have := (own_since O.out k hk).1; omega)
              · exact (World.cell?_setCell_other _ _ _ _ (by intro e; cases e)).trans (World.cell?_setCell_same _ _ _ z0)
              · exact World.cell?_setCell_same _ _ _ m1.out
              · exact (World.cell?_setCell_other _ _ _ _ (by intro e; cases e)).trans ((World.cell?_setCell_other _ _ _ _ (by intro e; cases e)).trans z2)
              · intro o; rw [World.frozen?_setCell, World.frozen?_setCell]; exact (frozen_same q5).trans (fz.out o)
              · exact (((bcat bw.out b5).setCell (p := ⟨w.heap.size, 0, none⟩) (Nat.le_refl _) _).setCell (p := ⟨w.heap.size, 1, none⟩) (Nat.le_refl _) _)
          · have hno : Hid (¬ (s.r = R ∧ s.f ≤ x.t ∧ x.f ≤ s.t)) := fun q => r3 q.2.2
            have d3 : decide (x.f ≤ s.t) = false := decide_eq_false r3
            clear r1 r3
            obtain ⟨w6, hw6⟩ : ∃ w6, w5.alloc (.cells #[.int .i64 s.f, .int .i64 s.t, .int .i64 s.r] 40) = w6 := ⟨_, rfl⟩
            have b6 : Below w5.heap.size w5 w6 := by rw [← hw6]; exact (Below.refl _ _).alloc (Nat.le_refl _) _
            have n6 := cell_new w5 (.int .i64 s.f) (.int .i64 s.t) (.int .i64 s.r) 40
            rw [hw6] at n6
            obtain ⟨n60, n61, n62⟩ := n6
            have hrow := owns_go O.out (bcat b5 b6)
            have HSn : Hid (scan R ⟨f, t, R⟩ l = ((scan R x (l.drop (j + 1))).1, (acc ++ [s]) ++ (scan R x (l.drop (j + 1))).2)) := by unfold Hid; rw [HS.out, HD.out]; simp only [scan]; rw [if_neg hno.out]; simp
            have HW6 : Hid (w5.alloc (.cells #[.int .i64 s.f, .int .i64 s.t, .int .i64 s.r] 40) = w6) := hw6
            have bw6 : Below w.heap.size w w6 := bcat bw.out (bcat b5 b6)
            have q56 : w6.heap[w.heap.size]? = wr.heap[w.heap.size]? := (b6.block _ (Nat.lt_of_lt_of_le hq b5.size)).trans (b5.block _ hq)
            rw [eo] at hrow
            clear hw6
            subst eo
            go_wp2_with (at_builtin; (try rw [HW6.out]); refine wpList_app kindSl rfl (.tmp 72) (.tmp 74) rfl (w.heap.size + 1) (.slice oa acc.length oc) acc rfl hrow _ [s] rfl (lone_at n60 n61 n62) (by have := hal.out; simp; omega) (by have := hal.out; unfold maxLen; simp; omega) (by have := bw6.size; have := b5.size; have := b6.size; omega) ?_; intro v2 w2 o2 g2 a2)
            go_roundw
            case measure => simp only [intOf]; omega
            case rel =>
              have q2 : w2.heap[w.heap.size]? = w6.heap[w.heap.size]? := g2.block _ (by have := b5.size; have := b6.size; omega) (fun e => by have := (own_since O.out _ e.symm).1; omega)
              have qq := q2.trans q56
              exact ⟨j + 1, x, acc ++ [s], rfl, hjl, o2, (cell_same qq).trans x0, (cell_same qq).trans x1, (cell_same qq).trans x2, (fun o => (frozen_same qq).trans (fz.out o) : ∀ o, w2.frozen? ⟨w.heap.size, o, none⟩ = false), HSn, bw6.grown g2 bw6.size (fun k hk => by have := (own_since O.out k hk).1; omega), (by unfold Hid; rw [List.length_append, List.length_singleton]; have := hal.out; omega : Hid ((acc ++ [s]).length ≤ j + 1)), hxr⟩
        · have hno : Hid (¬ (s.r = R ∧ s.f ≤ x.t ∧ x.f ≤ s.t)) := fun q => r2 q.2.1
          have d2 : decide (s.f ≤ x.t) = false := decide_eq_false r2
          clear r1 r2
          obtain ⟨w6, hw6⟩ : ∃ w6, w5.alloc (.cells #[.int .i64 s.f, .int .i64 s.t, .int .i64 s.r] 40) = w6 := ⟨_, rfl⟩
          have b6 : Below w5.heap.size w5 w6 := by rw [← hw6]; exact (Below.refl _ _).alloc (Nat.le_refl _) _
          have n6 := cell_new w5 (.int .i64 s.f) (.int .i64 s.t) (.int .i64 s.r) 40
          rw [hw6] at n6
          obtain ⟨n60, n61, n62⟩ := n6
          have hrow := owns_go O.out (bcat b5 b6)
          have HSn : Hid (scan R ⟨f, t, R⟩ l = ((scan R x (l.drop (j + 1))).1, (acc ++ [s]) ++ (scan R x (l.drop (j + 1))).2)) := by unfold Hid; rw [HS.out, HD.out]; simp only [scan]; rw [if_neg hno.out]; simp
          have HW6 : Hid (w5.alloc (.cells #[.int .i64 s.f, .int .i64 s.t, .int .i64 s.r] 40) = w6) := hw6
          have bw6 : Below w.heap.size w w6 := bcat bw.out (bcat b5 b6)
          have q56 : w6.heap[w.heap.size]? = wr.heap[w.heap.size]? := (b6.block _ (Nat.lt_of_lt_of_le hq b5.size)).trans (b5.block _ hq)
          rw [eo] at hrow
          clear hw6
          subst eo
          go_wp2_with (at_builtin; (try rw [HW6.out]); refine wpList_app kindSl rfl (.tmp 72) (.tmp 74) rfl (w.heap.size + 1) (.slice oa acc.length oc) acc rfl hrow _ [s] rfl (lone_at n60 n61 n62) (by have := hal.out; simp; omega) (by have := hal.out; unfold maxLen; simp; omega) (by have := bw6.size; have := b5.size; have := b6.size; omega) ?_; intro v2 w2 o2 g2 a2)
          go_roundw
          case measure => simp only [intOf]; omega
          case rel =>
            have q2 : w2.heap[w.heap.size]? = w6.heap[w.heap.size]? := g2.block _ (by have := b5.size; have := b6.size; omega) (fun e => by have := (own_since O.out _ e.symm).1; omega)
            have qq := q2.trans q56
            exact ⟨j + 1, x, acc ++ [s], rfl, hjl, o2, (cell_same qq).trans x0, (cell_same qq).trans x1, (cell_same qq).trans x2, (fun o => (frozen_same qq).trans (fz.out o) : ∀ o, w2.frozen? ⟨w.heap.size, o, none⟩ = false), HSn, bw6.grown g2 bw6.size (fun k hk => by have := (own_since O.out k hk).1; omega), (by unfold Hid; rw [List.length_append, List.length_singleton]; have := hal.out; omega : Hid ((acc ++ [s]).length ≤ j + 1)), hxr⟩
      · have hno : Hid (¬ (s.r = R ∧ s.f ≤ x.t ∧ x.f ≤ s.t)) := fun q => r1 q.1
        have d1 : (s.r == R) = false := by simp [r1]
        clear r1
        obtain ⟨w6, hw6⟩ : ∃ w6, w5.alloc (.cells #[.int .i64 s.f, .int .i64 s.t, .int .i64 s.r] 40) = w6 := ⟨_, rfl⟩
        have b6 : Below w5.heap.size w5 w6 := by rw [← hw6]; exact (Below.refl _ _).alloc (Nat.le_refl _) _
        have n6 := cell_new w5 (.int .i64 s.f) (.int .i64 s.t) (.int .i64 s.r) 40
        rw [hw6] at n6
        obtain ⟨n60, n61, n62⟩ := n6
        have hrow := owns_go O.out (bcat b5 b6)
        have HSn : Hid (scan R ⟨f, t, R⟩ l = ((scan R x (l.drop (j + 1))).1, (acc ++ [s]) ++ (scan R x (l.drop (j + 1))).2)) := by unfold Hid; rw [HS.out, HD.out]; simp only [scan]; rw [if_neg hno.out]; simp
        have HW6 : Hid (w5.alloc (.cells #[.int .i64 s.f, .int .i64 s.t, .int .i64 s.r] 40) = w6) := hw6
        have bw6 : Below w.heap.size w w6 := bcat bw.out (bcat b5 b6)
        have q56 : w6.heap[w.heap.size]? = wr.heap[w.heap.size]? := (b6.block _ (Nat.lt_of_lt_of_le hq b5.size)).trans (b5.block _ hq)
        rw [eo] at hrow
        clear hw6
        subst eo
        go_wp2_with (at_builtin; (try rw [HW6.out]); refine wpList_app kindSl rfl (.tmp 72) (.tmp 74) rfl (w.heap.size + 1) (.slice oa acc.length oc) acc rfl hrow _ [s] rfl (lone_at n60 n61 n62) (by have := hal.out; simp; omega) (by have := hal.out; unfold maxLen; simp; omega) (by have := bw6.size; have := b5.size; have := b6.size; omega) ?_; intro v2 w2 o2 g2 a2)
        go_roundw
        case measure => simp only [intOf]; omega
        case rel =>
          have q2 : w2.heap[w.heap.size]? = w6.heap[w.heap.size]? := g2.block _ (by have := b5.size; have := b6.size; omega) (fun e => by have := (own_since O.out _ e.symm).1; omega)
          have qq := q2.trans q56
          exact ⟨j + 1, x, acc ++ [s], rfl, hjl, o2, (cell_same qq).trans x0, (cell_same qq).trans x1, (cell_same qq).trans x2, (fun o => (frozen_same qq).trans (fz.out o) : ∀ o, w2.frozen? ⟨w.heap.size, o, none⟩ = false), HSn, bw6.grown g2 bw6.size (fun k hk => by have := (own_since O.out k hk).1; omega), (by unfold Hid; rw [List.length_append, List.length_singleton]; have := hal.out; omega : Hid ((acc ++ [s]).length ≤ j + 1)), hxr⟩
    · obtain rfl : j = l.length := by omega
      obtain ⟨W3, rfl⟩ : ∃ W3, W3 = wr := ⟨_, rfl⟩
      have HSx : Hid (scan R ⟨f, t, R⟩ l = (x, acc)) := by unfold Hid; rw [HS.out, List.drop_length]; simp [scan]
      have hxr' : R = x.r := hxr.out.symm
      have hxr2 : Hid (R = x.r) := hxr'
      have hSc : Hid (acc.Pairwise Ahead) := by
        have q := scan_all R l ⟨f, t, R⟩ HOK.out rfl HFX.out.2.1
        rw [HSx.out] at q
        exact HOK.out.rise.sublist q.sub
      have hFa : Hid (∀ a ∈ acc, a.f < a.t) := fun a ha => by
        have q := scan_all R l ⟨f, t, R⟩ HOK.out rfl HFX.out.2.1
        rw [HSx.out] at q
        exact (HOK.out.fit a (q.sub.subset ha)).2.1
      clear hxr' HS
      subst eo
      go_wp2_with fail
      go_loopw [14] (fun s14 wr => ∃ k : Nat, s14 = .int .i64 k ∧ k ≤ acc.length ∧ Hid (∀ a ∈ acc.take k, a.f < x.f) ∧ Hid (Below W3.heap.size W3 wr)) (fun s14 _ => acc.length - (intOf s14).toNat)
      case atStart => exact ⟨0, rfl, Nat.zero_le _, fun a ha => by simp at ha, Below.refl _ _⟩
      case round =>
        obtain ⟨k, rfl, hk, HT1, bk⟩ := hrel
        have hxr' : R = x.r := hxr2.out
        have HXR : Hid (R = x.r) := hxr'
        clear hxr'
        have q3 : wr.heap[w.heap.size]? = W3.heap[w.heap.size]? := bk.out.block _ hq
        have z0 : wr.cell? ⟨w.heap.size, 0, none⟩ = some (.int .i64 x.f) := (cell_same q3).trans x0
        have z1 : wr.cell? ⟨w.heap.size, 1, none⟩ = some (.int .i64 x.t) := (cell_same q3).trans x1
        rcases Nat.lt_or_ge k acc.length with hkl | hkg
        · obtain ⟨g2, o2', cap2, e2, c0, c1, c2⟩ := box_item (row_of_own slL_len (owns_go O.out bk.out)) k hkl
          cases e2
          have hkl' : (k : Int) < (acc.length : Int) := by omega
          have hks : (k : Int) + 1 ≤ 1000000000 := by have := hal.out; omega
          by_cases rk : (acc[k]).f < x.f
          · have HTn : Hid (∀ a ∈ acc.take (k + 1), a.f < x.f) := fun a ha => by
              rw [List.take_succ_eq_append_getElem hkl] at ha
              rcases List.mem_append.1 ha with q | q
              · exact HT1.out a q
              · rw [List.mem_singleton] at q; subst q; exact rk
            obtain ⟨s, hs'⟩ : ∃ s, acc[k] = s := ⟨_, rfl⟩
            rw [hs'] at c0 c1 c2 rk
            have dk : decide (s.f < x.f) = true := decide_eq_true rk
            clear hs' c1 c2
            go_wp2_with fail
            go_quiet (fail)
            go_wp2_with fail
            go_roundw
            case measure => simp only [intOf]; omega
            case rel => exact ⟨k + 1, rfl, hkl, HTn, bcat bk.out (below_drewN (Below.refl _ _) nq)⟩
          · have HT2 : ∀ b ∈ acc.drop k, x.f ≤ b.f := fun b hb => by
              obtain ⟨j2, hj2, rfl⟩ := List.mem_iff_getElem.1 hb
              rw [List.getElem_drop]
              rw [List.length_drop] at hj2
              rcases Nat.eq_zero_or_pos j2 with rfl | hp
              · have : (acc[k + 0]'(by omega)) = acc[k] := rfl
                rw [this]; omega
              · have h1 := (List.pairwise_iff_getElem.1 hSc.out k (k + j2) hkl (by omega) (by omega)).1
                have h2 := hFa.out acc[k] (List.getElem_mem _)
                omega
            obtain ⟨s, hs'⟩ : ∃ s, acc[k] = s := ⟨_, rfl⟩
            rw [hs'] at c0 rk
            have dk : decide (s.f < x.f) = false := decide_eq_false rk
            clear hs' c1 c2 rk
            have HT2' : Hid (∀ b ∈ acc.drop k, x.f ≤ b.f) := HT2
            clear HT2
            go_wp2_with fail
            go_quiet (fail)
            clear dk c0 hkl' hks
            obtain ⟨w4, hw4⟩ : ∃ w4, wr.drewN nq = w4 := ⟨_, rfl⟩
            rw [hw4]
            have b4 : Below W3.heap.size W3 w4 := by rw [← hw4]; exact bcat bk.out (below_drewN (Below.refl _ _) nq)
            have bw4 : Hid (Below w.heap.size w w4) := bcat bw.out b4
            have q4 : w4.heap[w.heap.size]? = W3.heap[w.heap.size]? := b4.block _ hq
            have u0 : w4.cell? ⟨w.heap.size, 0, none⟩ = some (.int .i64 x.f) := (cell_same q4).trans x0
            have u1 : w4.cell? ⟨w.heap.size, 1, none⟩ = some (.int .i64 x.t) := (cell_same q4).trans x1
            have u2 : w4.cell? ⟨w.heap.size, 2, none⟩ = some (.int .i64 R) := (cell_same q4).trans x2
            have lq4 : w.heap.size < w4.heap.size := World.block_lt_of_cell? _ _ u0
            have RA := (row_of_own slL_len (owns_go O.out b4)).mono (G := fun _ => True) fun _ _ => trivial
            obtain ⟨v95, hs95, R95⟩ := run_sub_to RA k hk
            obtain ⟨v104, hs104, R104⟩ := run_sub_from RA k hk
            obtain ⟨va95, n95, vc95, rfl⟩ := R95.shape
            obtain ⟨va104, n104, vc104, rfl⟩ := R104.shape
            obtain ⟨l1, hl1⟩ : ∃ l1, acc.take k = l1 := ⟨_, rfl⟩
            obtain ⟨l2, hl2⟩ : ∃ l2, acc.drop k = l2 := ⟨_, rfl⟩
            have hl12 : Hid (l1.length + l2.length ≤ 999999999) := by unfold Hid; rw [← hl1, ← hl2, List.length_take, List.length_drop]; have := hal.out; omega
            have WA := put_all (k := k) HOK.out HFX.out rfl HMT.out (by rw [HSx.out]; exact HT1.out) (by rw [HSx.out]; exact HT2'.out)
            rw [HSx.out] at WA
            simp only [hl1, hl2] at WA
            rw [hl1] at R95
            rw [hl2] at R104
            have H95 : Hid (RowAt slL (fun _ => True) w4 (.slice va95 n95 vc95) l1) := R95
            have H104 : Hid (RowAt slL (fun _ => True) w4 (.slice va104 n104 vc104) l2) := R104
            have HWA : Hid (With l [⟨f, t, R⟩] (l1 ++ [x] ++ l2)) := WA
            clear RA R95 R104 WA hw4 z0 z1 hl1 hl2 x0 x1 x2 hd3 hc3
            go_wp2_with (first
              | (have X9 := o2; refine wpList_sub rfl _ _ _ _ rfl (hs104 _) ?_)
              | (refine wpList_sub rfl _ _ _ _ rfl (hs95 _) ?_)
              | (have X9 := o2; at_builtin; refine wpList_app kindSl rfl (.tmp 101) (.tmp 104) rfl w4.heap.size v2 (l1 ++ [x]) rfl o2 _ l2 rfl (by exact (H104.out.go slL_len c7).lay) (by have := hl12.out; rw [List.length_append, List.length_singleton]; omega) (by have := hl12.out; rw [List.length_append, List.length_singleton]; unfold maxLen; omega) c7.size ?_; intro v3 w8 o3 g3 a3; have c8 : Below w4.heap.size w4 w8 := c7.grown g3 c7.size (fun z hz => (own_since o2 z hz).1); have D8 : Below w.heap.size w w8 := bcat bw4.out c8; have hd8 := (cell_same (o := 0) (D8.block b hbl)).trans hd; have hc8 := (cell_same (o := i) (D8.block g hgl)).trans hc; have hf8 := (frozen_same (o := i) (D8.block g hgl)).trans hfi; obtain ⟨xa3, xn3, xc3, xe3⟩ := ((row_of_own slL_len o3).mono (G := fun _ => True) fun _ _ => trivial).shape; subst xe3; have HO3 : Hid (w8.ownsRow w4.heap.size 40 3 (.slice xa3 xn3 xc3) (l1 ++ [x] ++ l2).length (rowL slL (l1 ++ [x] ++ l2))) := o3; clear o3 g3 a3)
              | (have X9 := o1; at_builtin; have n6 := cell_new w5 (.int .i64 x.f) (.int .i64 x.t) (.int .i64 R) 40; rw [HXR.out] at n6; refine wpList_app kindSl rfl (.tmp 97) (.tmp 99) rfl w4.heap.size v1 l1 rfl (owns_go o1 ((Below.refl _ _).alloc (Nat.le_refl _) _)) _ [x] rfl (by rw [HXR.out]; exact lone_at n6.1 n6.2.1 n6.2.2) (by have := hl12.out; rw [List.length_singleton]; omega) (by have := hl12.out; rw [List.length_singleton]; unfold maxLen; omega) (Nat.le_trans c5.size (by simp)) ?_; intro v2 w7 o2 g2 a2; have c7 : Below w4.heap.size w4 w7 := (c5.alloc c5.size _).grown g2 (Nat.le_trans c5.size (by simp)) (fun z hz => (own_since o1 z hz).1))
              | (at_builtin; refine wpList_app kindSl rfl (.tmp 92) (.tmp 95) rfl w4.heap.size (.slice none 0 0) [] rfl (World.ownsRow_nil _ _ _ _) _ l1 rfl (by exact H95.out.lay) (by have := hl12.out; simp only [List.length_nil]; omega) (by have := hl12.out; simp only [List.length_nil]; unfold maxLen; omega) (Nat.le_refl _) ?_; intro v1 w5 o1 g1 a1; rw [List.nil_append] at o1; have c5 : Below w4.heap.size w4 w5 := (Below.refl _ _).grown g1 (Nat.le_refl _) (fun z hz => (by cases hz)); have q5 : w5.heap[w.heap.size]? = w4.heap[w.heap.size]? := c5.block _ lq4; have t0 := (cell_same (o := 0) q5).trans u0; have t1 := (cell_same (o := 1) q5).trans u1; have t2 := (cell_same (o := 2) q5).trans u2))
            go_end0
            have PT := HTI.out.put D8 g i hvg hi _ _ ((row_of_own slL_len HO3.out).mono (G := fun z => (F z ∧ z ≠ b ∧ v.ownBlock ≠ some z) ∨ w.heap.size ≤ z) fun z hz => Or.inr (Nat.le_trans bw4.out.size hz.2.1))
            exact ⟨rfl, _, _, ⟨_, _, PT.1⟩, PT.2, HWA.out⟩
        · obtain rfl : k = acc.length := by omega
          have HT2' : Hid (∀ b ∈ acc.drop acc.length, x.f ≤ b.f) := fun b hb => by rw [List.drop_length] at hb; cases hb
          go_wp2_with fail
          go_quiet (fail)
          obtain ⟨w4, hw4⟩ : ∃ w4, wr.drewN nq = w4 := ⟨_, rfl⟩
          rw [hw4]
          have b4 : Below W3.heap.size W3 w4 := by rw [← hw4]; exact bcat bk.out (below_drewN (Below.refl _ _) nq)
          have bw4 : Hid (Below w.heap.size w w4) := bcat bw.out b4
          have q4 : w4.heap[w.heap.size]? = W3.heap[w.heap.size]? := b4.block _ hq
          have u0 : w4.cell? ⟨w.heap.size, 0, none⟩ = some (.int .i64 x.f) := (cell_same q4).trans x0
          have u1 : w4.cell? ⟨w.heap.size, 1, none⟩ = some (.int .i64 x.t) := (cell_same q4).trans x1
          have u2 : w4.cell? ⟨w.heap.size, 2, none⟩ = some (.int .i64 R) := (cell_same q4).trans x2
          have lq4 : w.heap.size < w4.heap.size := World.block_lt_of_cell? _ _ u0
          have RA := (row_of_own slL_len (owns_go O.out b4)).mono (G := fun _ => True) fun _ _ => trivial
          obtain ⟨v95, hs95, R95⟩ := run_sub_to RA acc.length hk
          obtain ⟨v104, hs104, R104⟩ := run_sub_from RA acc.length hk
          obtain ⟨va95, n95, vc95, rfl⟩ := R95.shape
          obtain ⟨va104, n104, vc104, rfl⟩ := R104.shape
          obtain ⟨l1, hl1⟩ : ∃ l1, acc.take acc.length = l1 := ⟨_, rfl⟩
          obtain ⟨l2, hl2⟩ : ∃ l2, acc.drop acc.length = l2 := ⟨_, rfl⟩
          have hl12 : Hid (l1.length + l2.length ≤ 999999999) := by unfold Hid; rw [← hl1, ← hl2, List.length_take, List.length_drop]; have := hal.out; omega
          have WA := put_all (k := acc.length) HOK.out HFX.out rfl HMT.out (by rw [HSx.out]; exact HT1.out) (by rw [HSx.out]; exact HT2'.out)
          rw [HSx.out] at WA
          simp only [hl1, hl2] at WA
          rw [hl1] at R95
          rw [hl2] at R104
          have H95 : Hid (RowAt slL (fun _ => True) w4 (.slice va95 n95 vc95) l1) := R95
          have H104 : Hid (RowAt slL (fun _ => True) w4 (.slice va104 n104 vc104) l2) := R104
          have HWA : Hid (With l [⟨f, t, R⟩] (l1 ++ [x] ++ l2)) := WA
          clear RA R95 R104 WA hw4 z0 z1 hl1 hl2 x0 x1 x2 hd3 hc3
          go_wp2_with (first
            | (have X9 := o2; refine wpList_sub rfl _ _ _ _ rfl (hs104 _) ?_)
            | (refine wpList_sub rfl _ _ _ _ rfl (hs95 _) ?_)
            | (have X9 := o2; at_builtin; refine wpList_app kindSl rfl (.tmp 101) (.tmp 104) rfl w4.heap.size v2 (l1 ++ [x]) rfl o2 _ l2 rfl (by exact (H104.out.go slL_len c7).lay) (by have := hl12.out; rw [List.length_append, List.length_singleton]; omega) (by have := hl12.out; rw [List.length_append, List.length_singleton]; unfold maxLen; omega) c7.size ?_; intro v3 w8 o3 g3 a3; have c8 : Below w4.heap.size w4 w8 := c7.grown g3 c7.size (fun z hz => (own_since o2 z hz).1); have D8 : Below w.heap.size w w8 := bcat bw4.out c8; have hd8 := (cell_same (o := 0) (D8.block b hbl)).trans hd; have hc8 := (cell_same (o := i) (D8.block g hgl)).trans hc; have hf8 := (frozen_same (o := i) (D8.block g hgl)).trans hfi; obtain ⟨xa3, xn3, xc3, xe3⟩ := ((row_of_own slL_len o3).mono (G := fun _ => True) fun _ _ => trivial).shape; subst xe3; have HO3 : Hid (w8.ownsRow w4.heap.size 40 3 (.slice xa3 xn3 xc3) (l1 ++ [x] ++ l2).length (rowL slL (l1 ++ [x] ++ l2))) := o3; clear o3 g3 a3)
            | (have X9 := o1; at_builtin; have n6 := cell_new w5 (.int .i64 x.f) (.int .i64 x.t) (.int .i64 R) 40; rw [HXR.out] at n6; refine wpList_app kindSl rfl (.tmp 97) (.tmp 99) rfl w4.heap.size v1 l1 rfl (owns_go o1 ((Below.refl _ _).alloc (Nat.le_refl _) _)) _ [x] rfl (by rw [HXR.out]; exact lone_at n6.1 n6.2.1 n6.2.2) (by have := hl12.out; rw [List.length_singleton]; omega) (by have := hl12.out; rw [List.length_singleton]; unfold maxLen; omega) (Nat.le_trans c5.size (by simp)) ?_; intro v2 w7 o2 g2 a2; have c7 : Below w4.heap.size w4 w7 := (c5.alloc c5.size _).grown g2 (Nat.le_trans c5.size (by simp)) (fun z hz => (own_since o1 z hz).1))
            | (at_builtin; refine wpList_app kindSl rfl (.tmp 92) (.tmp 95) rfl w4.heap.size (.slice none 0 0) [] rfl (World.ownsRow_nil _ _ _ _) _ l1 rfl (by exact H95.out.lay) (by have := hl12.out; simp only [List.length_nil]; omega) (by have := hl12.out; simp only [List.length_nil]; unfold maxLen; omega) (Nat.le_refl _) ?_; intro v1 w5 o1 g1 a1; rw [List.nil_append] at o1; have c5 : Below w4.heap.size w4 w5 := (Below.refl _ _).grown g1 (Nat.le_refl _) (fun z hz => (by cases hz)); have q5 : w5.heap[w.heap.size]? = w4.heap[w.heap.size]? := c5.block _ lq4; have t0 := (cell_same (o := 0) q5).trans u0; have t1 := (cell_same (o := 1) q5).trans u1; have t2 := (cell_same (o := 2) q5).trans u2))
          go_end0
          have PT := HTI.out.put D8 g i hvg hi _ _ ((row_of_own slL_len HO3.out).mono (G := fun z => (F z ∧ z ≠ b ∧ v.ownBlock ≠ some z) ∨ w.heap.size ≤ z) fun z hz => Or.inr (Nat.le_trans bw4.out.size hz.2.1))
          exact ⟨rfl, _, _, ⟨_, _, PT.1⟩, PT.2, HWA.out⟩
end Go.Proofs.Ytddkgkafgjdheaa.Rs
