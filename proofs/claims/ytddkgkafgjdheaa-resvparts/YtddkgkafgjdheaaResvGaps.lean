/-
  Stretches that are told, and gathered.
-/
import Derived.Test.YtddkgkafgjdheaaResvRel
namespace Go.Proofs.Ytddkgkafgjdheaa.Rs
set_option linter.unusedVariables false
set_option linter.unusedSimpArgs false
open Go Go.RowKit Go.Shelf Go.Proofs Hp
attribute [local go_sem] Oper.semAt_some

def prL (x : Int × Int) : List Value := [.int .i64 x.1, .int .i64 x.2]
theorem infoPr : (Try.prog.info? 54).map (fun i => (i.zero, i.size, i.bytes)) = some (some (.agg #[.int .i64 0, .int .i64 0]), 2, 16) := by kernel_rfl
theorem kindPr : Kind prL 49 54 2 16 :=
  ⟨fun _ => rfl, fun x u hu => by simp [prL] at hu; rcases hu with rfl | rfl <;> rfl, Try.underlying49, by decide, by obtain ⟨i0, hi, hz0, hz1, hz2⟩ := info_parts infoPr; exact ⟨i0, _, hi, hz0, hz1, hz2, rfl⟩⟩
/- What is gathered: a list in a box, and how many at most. -/
structure StrIn (B : Nat) (u : World) (q5 q3 : Nat) (most : Int) (ps : List (Int × Int)) (sv : Value) : Prop where
  row : u.ownsRow B 54 2 sv ps.length (rowL prL ps)
  c5 : u.cell? ⟨q5, 0, none⟩ = some sv
  f5 : ∀ o, u.frozen? ⟨q5, o, none⟩ = false
  c3 : u.cell? ⟨q3, 0, none⟩ = some (.int .i64 most)
  ne : q5 ≠ q3
  o5 : sv.ownBlock ≠ some q5
  o3 : sv.ownBlock ≠ some q3
  low : B ≤ q5
theorem StrIn.go {B : Nat} {u u' : World} {q5 q3 : Nat} {most : Int} {ps : List (Int × Int)} {sv : Value} (h : StrIn B u q5 q3 most ps sv) (hb : Below u.heap.size u u') : StrIn B u' q5 q3 most ps sv :=
  have e5 := hb.block q5 (World.block_lt_of_cell? _ _ h.c5)
  have e3 := hb.block q3 (World.block_lt_of_cell? _ _ h.c3)
  ⟨owns_go h.row hb, (cell_same e5).trans h.c5, fun o => (frozen_same e5).trans (h.f5 o), (cell_same e3).trans h.c3, h.ne, h.o5, h.o3, h.low⟩
theorem lone_pr {w : World} {q : Nat} {x : Int × Int} (c0 : w.cell? ⟨q, 0, none⟩ = some (.int .i64 x.1)) (c1 : w.cell? ⟨q, 1, none⟩ = some (.int .i64 x.2)) : (Value.slice (some ⟨q, 0, none⟩) 1 1 = .slice none 0 0 ∧ [x] = []) ∨ ∃ p cap, Value.slice (some ⟨q, 0, none⟩) 1 1 = .slice (some p) [x].length cap ∧ ∀ j u, (rowL prL [x])[j]? = some u → w.cell? (p.add j) = some u := by
  refine Or.inr ⟨⟨q, 0, none⟩, 1, rfl, fun j u hj => ?_⟩
  rw [Addr.add_lit, Nat.zero_add]
  match j with
  | 0 => cases hj; exact c0
  | 1 => cases hj; exact c1
  | j + 2 => simp [rowL, prL] at hj
set_option maxRecDepth 100000 in
set_option maxHeartbeats 1000000 in
theorem str1_any (B : Nat) (q5 q3 : Nat) (most a b : Int) (ps : List (Int × Int)) (sv : Value) (u : World) (h : StrIn B u q5 q3 most ps sv) (hm : ps.length ≤ 1000000000) (hB : B ≤ u.heap.size) :
    Calls Try.prog 46 #[.int .i64 a, .int .i64 b, .pointer (some ⟨q5, 0, none⟩), .pointer (some ⟨q3, 0, none⟩)] u fun e w' => e = .returned (.bool (decide (((ps.length + 1 : Nat) : Int) < most))) ∧ ∃ sv', StrIn B w' q5 q3 most (ps ++ [(a, b)]) sv' ∧ Below B u w' ∧ ∀ k, k < u.heap.size → k ≠ q5 → sv.ownBlock ≠ some k → w'.heap[k]? = u.heap[k]? := by
  obtain ⟨va, vc, ev, _⟩ := own_form h.row
  obtain ⟨w1, hw1⟩ : ∃ w1, u.alloc (.cells #[.int .i64 a, .int .i64 b] 54) = w1 := ⟨_, rfl⟩
  have b1 : Below u.heap.size u w1 := by rw [← hw1]; exact (Below.refl _ _).alloc (Nat.le_refl _) _
  have n0 : w1.cell? ⟨u.heap.size, 0, none⟩ = some (.int .i64 a) := by rw [← hw1]; simp
  have n1 : w1.cell? ⟨u.heap.size, 1, none⟩ = some (.int .i64 b) := by rw [← hw1]; simp
  have h1 := h.go b1
  have HH : Hid (StrIn B w1 q5 q3 most ps sv) := h1
  have HU : Hid (StrIn B u q5 q3 most ps sv) := h
  have hrow := h1.row
  have c5 := h.c5
  rw [ev] at hrow c5
  have l5 : q5 < w1.heap.size := World.block_lt_of_cell? _ _ h1.c5
  have l3 : q3 < w1.heap.size := World.block_lt_of_cell? _ _ h1.c3
  have HW : Hid (u.alloc (.cells #[.int .i64 a, .int .i64 b] 54) = w1) := hw1
  subst ev
  clear h h1 hw1
  have key : ∀ v2 w2, w2.ownsRow B 54 2 v2 (ps ++ [(a, b)]).length (rowL prL (ps ++ [(a, b)])) → w1.grownBy w2 (Value.slice va ps.length vc).ownBlock → (v2.ownBlock = (Value.slice va ps.length vc).ownBlock ∨ v2.ownBlock = some w1.heap.size) → StrIn B (w2.setCell ⟨q5, 0, none⟩ v2) q5 q3 most (ps ++ [(a, b)]) v2 ∧ Below B u (w2.setCell ⟨q5, 0, none⟩ v2) ∧ w2.cell? ⟨q5, 0, none⟩ = some (.slice va ps.length vc) ∧ w2.frozen? ⟨q5, 0, none⟩ = false ∧ w2.cell? ⟨q3, 0, none⟩ = some (.int .i64 most) ∧ (∀ k, k < u.heap.size → k ≠ q5 → (Value.slice va ps.length vc).ownBlock ≠ some k → (w2.setCell ⟨q5, 0, none⟩ v2).heap[k]? = u.heap[k]?) := fun v2 w2 o2 g2 a2 => by
    have H := HH.out
    have e5 : w2.heap[q5]? = w1.heap[q5]? := g2.block q5 l5 (fun e => H.o5 e.symm)
    have e3 : w2.heap[q3]? = w1.heap[q3]? := g2.block q3 l3 (fun e => H.o3 e.symm)
    have hst : ∀ k, k ≠ q5 → (w2.setCell ⟨q5, 0, none⟩ v2).heap[k]? = w2.heap[k]? := fun k hk => Below.heap_setCell _ _ _ k hk
    have n5 : v2.ownBlock ≠ some q5 := by
      rcases a2 with e | e
      · rw [e]; exact H.o5
      · rw [e]; intro q; cases q; omega
    have n3 : v2.ownBlock ≠ some q3 := by
      rcases a2 with e | e
      · rw [e]; exact H.o3
      · rw [e]; intro q; cases q; omega
    refine ⟨⟨owns_same o2 fun k hk => hst k (fun e => n5 (by rw [hk, e])), World.cell?_setCell_same _ _ _ ((cell_same e5).trans H.c5), fun o => by rw [World.frozen?_setCell]; exact (frozen_same e5).trans (H.f5 o), (cell_same (hst q3 (fun e => H.ne e.symm))).trans ((cell_same e3).trans H.c3), H.ne, n5, n3, H.low⟩, ?_, (cell_same e5).trans H.c5, (frozen_same e5).trans (H.f5 0), (cell_same e3).trans H.c3, fun k hk h5 hv => (hst k h5).trans ((g2.block k (Nat.lt_of_lt_of_le hk b1.size) (fun e => hv e.symm)).trans (b1.block k hk))⟩
    exact (((Below.mono b1 hB).grown g2 (Nat.le_trans hB b1.size) (fun k hk => (own_since HU.out.row k hk).1)).setCell (p := ⟨q5, 0, none⟩) H.low _)
  have KEY : Hid _ := key
  clear key
  go_enter Try.func46, Try.ntmps46
  go_wp2_with (at_builtin; (try rw [HW.out]); refine wpList_app kindPr rfl (.tmp 7) (.tmp 11) rfl B (.slice va ps.length vc) ps rfl hrow _ [(a, b)] rfl (lone_pr n0 n1) (by simp; omega) (by unfold maxLen; simp; omega) (Nat.le_trans hB b1.size) ?_; intro v2 w2 o2 g2 a2; obtain ⟨k1, k2, k3, k4, k5, k7⟩ := KEY.out v2 w2 o2 g2 a2; obtain ⟨xa, xc, xe, _⟩ := own_form o2; rw [show (ps ++ [(a, b)]).length = ps.length + 1 by simp] at xe; subst xe; have k6 := k1.c3; have HK7 : Hid (∀ k, k < u.heap.size → k ≠ q5 → (Value.slice va ps.length vc).ownBlock ≠ some k → (w2.setCell ⟨q5, 0, none⟩ (.slice xa (ps.length + 1) xc)).heap[k]? = u.heap[k]?) := k7; have HK : Hid (StrIn B (w2.setCell ⟨q5, 0, none⟩ (.slice xa (ps.length + 1) xc)) q5 q3 most (ps ++ [(a, b)]) (.slice xa (ps.length + 1) xc)) := k1; have HK2 : Hid (Below B u (w2.setCell ⟨q5, 0, none⟩ (.slice xa (ps.length + 1) xc))) := k2; clear k1 k2 k7 o2 g2 a2)
  go_ret
  exact ⟨ret_bool (by first | rfl | simp), _, HK.out, HK2.out, HK7.out⟩
/- What Gaps hands out: a cell's slots, whether it is there, and whose. -/
structure GapsIn (u : World) (p8 p7 p5 : Nat) (thr : Bool) (lv : Value) (l : List Sl) (R : Int) : Prop where
  c8 : u.cell? ⟨p8, 0, none⟩ = some (.bool thr)
  c7 : u.cell? ⟨p7, 0, none⟩ = some lv
  c5 : u.cell? ⟨p5, 0, none⟩ = some (.int .i64 R)
  row : RowAt slL (fun _ => True) u lv l
theorem GapsIn.go {u u' : World} {p8 p7 p5 : Nat} {thr : Bool} {lv : Value} {l : List Sl} {R : Int} (h : GapsIn u p8 p7 p5 thr lv l R) (hb : Below u.heap.size u u') : GapsIn u' p8 p7 p5 thr lv l R :=
  ⟨(cell_same (hb.block _ (World.block_lt_of_cell? _ _ h.c8))).trans h.c8, (cell_same (hb.block _ (World.block_lt_of_cell? _ _ h.c7))).trans h.c7, (cell_same (hb.block _ (World.block_lt_of_cell? _ _ h.c5))).trans h.c5, h.row.go slL_len hb⟩
def GapsV (p8 p7 p5 : Nat) : Value := .func (.func 48) #[] #[.pointer (some ⟨p8, 0, none⟩), .pointer (some ⟨p7, 0, none⟩), .pointer (some ⟨p5, 0, none⟩)]
set_option maxRecDepth 100000 in
set_option maxHeartbeats 1000000 in
theorem gaps_any (F : Nat → Prop) (b : Nat) (ls : List (List Sl)) (c R : Int) (w : World) (h : TAt F w b ls) :
    Calls Try.prog 23 #[.pointer (some ⟨b, 0, none⟩), .int .i64 c, .int .i64 R] w fun e w' => ∃ p8 p7 p5 lv, e = .returned (GapsV p8 p7 p5) ∧ GapsIn w' p8 p7 p5 (isThere ls.length c) lv (rowOf ls c) R ∧ Below w.heap.size w w' := by
  obtain ⟨v, vals, TI⟩ := h
  obtain ⟨W1, hW1⟩ : ∃ W1, w.alloc (.cells #[.int .i64 R] 3) = W1 := ⟨_, rfl⟩
  have b1 : Below w.heap.size w W1 := by rw [← hW1]; exact (Below.refl _ _).alloc (Nat.le_refl _) _
  have x0 : W1.cell? ⟨w.heap.size, 0, none⟩ = some (.int .i64 R) := by rw [← hW1]; simp
  have cO := of_any F b v vals ls c W1 (TI.go b1)
  have cT := there_any F b ls c W1 ⟨v, vals, TI.go b1⟩
  generalize rowOf ls c = l at *
  generalize isThere ls.length c = thr at *
  have lx : w.heap.size < W1.heap.size := World.block_lt_of_cell? _ _ x0
  have B1 : Hid (Below w.heap.size w W1) := b1
  clear TI b1
  unfold GapsV
  go_enter Try.func23, Try.ntmps23
  go_wp2_with (first
    | (go_at_call 41; (try rw [hW1]); refine cO.mono ?_; rintro e w2 ⟨lv, rfl, rfl, RL⟩; obtain ⟨la, ln, lc, rfl⟩ := RL.shape)
    | (go_at_call 47; refine cT.mono ?_; rintro e w3 ⟨rfl, rfl⟩))
  go_ret
  have b2 : Below w3.heap.size w3 ((w3.alloc (.cells #[.slice la ln lc] 37)).alloc (.cells #[.bool thr] 4)) := ((Below.refl _ _).alloc (Nat.le_refl _) _).alloc (by simp) _
  refine ⟨w3.heap.size + 1, w3.heap.size, w.heap.size, .slice la ln lc, rfl, ⟨by simp, by simp, (cell_same (b2.block _ lx)).trans x0, (RL.go slL_len b2).mono fun _ _ => trivial⟩, bcat B1.out b2⟩
theorem gaps_mine {R at_ : Int} {s : Sl} {l : List Sl} (h : s.r = R) : gaps R at_ (s :: l) = gaps R at_ l := by simp only [gaps]; rw [if_pos h]
theorem gaps_yes {R at_ : Int} {s : Sl} {l : List Sl} (h : s.r ≠ R) (k : at_ < s.f) : gaps R at_ (s :: l) = (at_, s.f) :: gaps R s.t l := by simp only [gaps]; rw [if_neg h, if_pos k]; rfl
theorem gaps_no {R at_ : Int} {s : Sl} {l : List Sl} (h : s.r ≠ R) (k : ¬ at_ < s.f) : gaps R at_ (s :: l) = gaps R s.t l := by simp only [gaps]; rw [if_neg h, if_neg k]; rfl
def gapsOf (thr : Bool) (R : Int) (l : List Sl) : List (Int × Int) := if thr then gaps R 0 l else []
set_option maxRecDepth 100000 in
set_option maxHeartbeats 4000000 in
theorem gaps1_any (B : Nat) (q5 q3 p8 p7 p5 : Nat) (most : Nat) (thr : Bool) (lv : Value) (l : List Sl) (R : Int) (sv : Value) (u : World) (h : StrIn B u q5 q3 most [] sv) (hG : GapsIn u p8 p7 p5 thr lv l R) (hl : l.length ≤ 900000000) (h8 : p8 < B) (h7 : p7 < B) (h5 : p5 < B) (hR : RowAt slL (fun k => k < B) u lv l) (hB : B ≤ u.heap.size) (hm : 0 < most) :
    Calls Try.prog 48 #[.func (.func 46) #[] #[.pointer (some ⟨q5, 0, none⟩), .pointer (some ⟨q3, 0, none⟩)], .pointer (some ⟨p8, 0, none⟩), .pointer (some ⟨p7, 0, none⟩), .pointer (some ⟨p5, 0, none⟩)] u fun e w' => e = .returned (.tuple #[]) ∧ ∃ sv', StrIn B w' q5 q3 most ((gapsOf thr R l).take most) sv' ∧ Below B u w' := by
  obtain ⟨la, lc, el, _⟩ := hG.row.form
  have c8 := hG.c8
  have c7 := hG.c7
  have c5 := hG.c5
  rw [el] at c7 hR
  have HS : Hid (StrIn B u q5 q3 most [] sv) := h
  have HR : Hid (RowAt slL (fun k => k < B) u (.slice la l.length lc) l) := hR
  clear h hG hR el
  cases thr with
  | false =>
    go_enter Try.func48, Try.ntmps48
    have HE : Hid (StrIn B u q5 q3 most ((gapsOf false R l).take most) sv) := by unfold Hid; rw [show (gapsOf false R l).take most = [] by simp [gapsOf]]; exact HS.out
    go_wp2
    refine bodyPost_ret (results_none rfl _ _ _) rfl ?_
    first | exact ⟨rfl, sv, HE.out, Below.refl _ _⟩ | exact ⟨rfl, ⟨sv, HE.out⟩, Below.refl _ _⟩
  | true =>
    rw [show gapsOf true R l = gaps R 0 l from rfl]
    obtain ⟨G, hGG⟩ : ∃ G, gaps R 0 l = G := ⟨_, rfl⟩
    rw [hGG]
    have HGG : Hid (gaps R 0 l = G) := hGG
    clear hGG
    go_enter Try.func48, Try.ntmps48
    go_wp2_with fail
    go_loopw [5, 12] (fun s5 s12 wr => ∃ (i : Nat) (at_ : Int) (ps : List (Int × Int)) (sv : Value), s5 = .int .i64 at_ ∧ s12 = .int .i64 i ∧ i ≤ l.length ∧ Hid (StrIn B wr q5 q3 most ps sv) ∧ Hid (ps.length < most ∧ ps.length ≤ i) ∧ Hid (G = ps ++ gaps R at_ (l.drop i)) ∧ Hid (Below B u wr)) (fun _ s12 _ => l.length - (intOf s12).toNat)
    case atStart => exact ⟨0, 0, [], sv, rfl, rfl, Nat.zero_le _, HS, (⟨hm, Nat.le_refl _⟩ : ([] : List (Int × Int)).length < most ∧ ([] : List (Int × Int)).length ≤ 0), by unfold Hid; rw [List.drop_zero, HGG.out]; rfl, Below.refl _ _⟩
    case round =>
      obtain ⟨i, at_, ps, sv2, rfl, rfl, hi, HI, hp, HG, bw⟩ := hrel
      have szw : B ≤ wr.heap.size := Nat.le_trans hB bw.out.size
      rcases Nat.lt_or_ge i l.length with hlt | hge
      · obtain ⟨g, o, cap, e2, k0, k1, k2⟩ := box_item (HR.out.same fun k hk => bw.out.block k hk) i hlt
        cases e2
        have k5 : wr.cell? ⟨p5, 0, none⟩ = some (.int .i64 R) := (cell_same (bw.out.block p5 h5)).trans c5
        have hlt' : (i : Int) < (l.length : Int) := by omega
        have hsm : (i : Int) + 1 ≤ 1000000000 := by omega
        have hd := drop_at hlt
        obtain ⟨s, hs⟩ : ∃ s, l[i] = s := ⟨_, rfl⟩
        rw [hs] at k0 k1 k2 hd
        have HD : Hid (l.drop i = s :: l.drop (i + 1)) := hd
        clear hs hd
        obtain ⟨w5, hw5⟩ : ∃ w5, wr.alloc (.cells #[.int .i64 s.f, .int .i64 s.t, .int .i64 s.r] 40) = w5 := ⟨_, rfl⟩
        have b5 : Below wr.heap.size wr w5 := by rw [← hw5]; exact (Below.refl _ _).alloc (Nat.le_refl _) _
        have n5 := cell_new wr (.int .i64 s.f) (.int .i64 s.t) (.int .i64 s.r) 40
        rw [hw5] at n5
        obtain ⟨n50, n51, n52⟩ := n5
        have l5 : wr.heap.size < w5.heap.size := World.block_lt_of_cell? _ _ n50
        have B5 : Hid (Below B u w5) := bw.out.trans (b5.mono szw)
        have I5 : Hid (StrIn B w5 q5 q3 most ps sv2) := HI.out.go b5
        have k5' : w5.cell? ⟨p5, 0, none⟩ = some (.int .i64 R) := (cell_same (b5.block p5 (by omega))).trans k5
        by_cases r1 : s.r = R
        · have d1 : (s.r == R) = true := by simp [r1]
          have HGn : Hid (G = ps ++ gaps R at_ (l.drop (i + 1))) := by unfold Hid; rw [HG.out, HD.out, gaps_mine r1]
          clear r1
          go_wp2_with fail
          go_roundw
          case measure => simp only [intOf]; omega
          case rel => exact ⟨i + 1, at_, ps, sv2, rfl, rfl, hlt, I5, (⟨hp.out.1, by have := hp.out.2; omega⟩ : ps.length < most ∧ ps.length ≤ i + 1), HGn, B5⟩
        · have d1 : (s.r == R) = false := by simp [r1]
          by_cases r2 : at_ < s.f
          · have HGn : Hid (G = (ps ++ [(at_, s.f)]) ++ gaps R s.t (l.drop (i + 1))) := by unfold Hid; rw [HG.out, HD.out, gaps_yes r1 r2]; simp
            have cY := str1_any B q5 q3 most at_ s.f ps sv2 w5 I5.out (by have := hp.out.2; omega) (Nat.le_trans szw b5.size)
            have q5l : q5 < wr.heap.size := World.block_lt_of_cell? _ _ HI.out.c5
            have n5b : wr.heap.size ≠ q5 := by omega
            have nsv : sv2.ownBlock ≠ some wr.heap.size := fun e => by have := (own_since HI.out.row _ e).2; omega
            have lw5 : B ≤ w5.heap.size := Nat.le_trans szw b5.size
            clear r1
            by_cases r3 : ((ps.length + 1 : Nat) : Int) < most
            · rw [decide_eq_true r3] at cY
              have hp' : Hid ((ps ++ [(at_, s.f)]).length < most ∧ (ps ++ [(at_, s.f)]).length ≤ i + 1) := by unfold Hid; rw [List.length_append, List.length_singleton]; have := hp.out.2; omega
              clear r3
              go_wp2_with (go_at_call 46; (try rw [hw5]); refine cY.mono ?_; rintro e w6 ⟨rfl, sv6, I6, b6, f6⟩; have m1 := (cell_same (o := 1) (f6 _ l5 n5b nsv)).trans n51)
              go_roundw
              case measure => simp only [intOf]; omega
              case rel => exact ⟨i + 1, s.t, _, sv6, rfl, rfl, hlt, I6, hp', HGn, B5.out.trans b6⟩
            · rw [decide_eq_false r3] at cY
              have hL : Hid (most = ps.length + 1) := by unfold Hid; have := hp.out.1; omega
              clear r3
              go_wp2_with (go_at_call 46; (try rw [hw5]); refine cY.mono ?_; rintro e w6 ⟨rfl, sv6, I6, b6, f6⟩)
              refine bodyPost_ret (results_none rfl _ _ _) rfl ?_
              have e9 : G.take most = ps ++ [(at_, s.f)] := by rw [HGn.out, hL.out, List.take_append_of_le_length (by simp), List.take_of_length_le (by simp)]
              rw [← e9] at I6
              first | exact ⟨rfl, sv6, I6, B5.out.trans b6⟩ | exact ⟨rfl, ⟨sv6, I6⟩, B5.out.trans b6⟩
          · have HGn : Hid (G = ps ++ gaps R s.t (l.drop (i + 1))) := by unfold Hid; rw [HG.out, HD.out, gaps_no r1 r2]
            have d2 : decide (at_ < s.f) = false := decide_eq_false r2
            clear r1 r2
            go_wp2_with fail
            go_roundw
            case measure => simp only [intOf]; omega
            case rel => exact ⟨i + 1, s.t, ps, sv2, rfl, rfl, hlt, I5, (⟨hp.out.1, by have := hp.out.2; omega⟩ : ps.length < most ∧ ps.length ≤ i + 1), HGn, B5⟩
      · obtain rfl : i = l.length := by omega
        have HGe := HG.out
        rw [List.drop_length] at HGe
        have HGE : Hid (G = ps ++ gaps R at_ []) := HGe
        clear HGe
        by_cases r1 : at_ < 4611686018427387904
        · have e0 : gaps R at_ [] = [(at_, FV)] := by simp only [gaps]; rw [if_pos (by unfold FV; exact r1)]
          have cY := str1_any B q5 q3 most at_ 4611686018427387904 ps sv2 wr HI.out (by have := hp.out.2; omega) szw
          have HE : Hid (G.take most = ps ++ [(at_, 4611686018427387904)]) := by unfold Hid; rw [HGE.out, e0, List.take_of_length_le (by rw [List.length_append, List.length_singleton]; exact hp.out.1)]; rfl
          clear e0
          go_wp2_with (go_at_call 46; refine cY.mono ?_; rintro e w6 ⟨rfl, sv6, I6, b6, f6⟩)
          go_end0
          rw [← HE.out] at I6
          first | exact ⟨rfl, sv6, I6, bw.out.trans b6⟩ | exact ⟨rfl, ⟨sv6, I6⟩, bw.out.trans b6⟩
        · have e0 : gaps R at_ [] = [] := by simp only [gaps]; rw [if_neg (by unfold FV; exact r1)]
          have HE : Hid (G.take most = ps) := by unfold Hid; rw [HGE.out, e0, List.append_nil, List.take_of_length_le (Nat.le_of_lt hp.out.1)]
          clear e0
          go_wp2
          go_end0
          have I6 := HI.out
          rw [← HE.out] at I6
          first | exact ⟨rfl, sv2, I6, bw.out⟩ | exact ⟨rfl, ⟨sv2, I6⟩, bw.out⟩
theorem eql_gaps (a : Array Value) (u : World) : (binOp .eql 52 (.func (.func 48) #[] a) .nilFunc).run Try.prog u = .ok (.bool false) u := by kernel_rfl
set_option maxRecDepth 100000 in
set_option maxHeartbeats 1000000 in
theorem stretches_any (p8 p7 p5 : Nat) (most : Nat) (thr : Bool) (lv : Value) (l : List Sl) (R : Int) (w : World) (h : GapsIn w p8 p7 p5 thr lv l R) (hl : l.length ≤ 900000000) (hm : 0 < most) (hm2 : most ≤ 1000000000) :
    Calls Try.prog 22 #[GapsV p8 p7 p5, .int .i64 (most : Nat)] w fun e w' => ∃ sv, e = .returned sv ∧ w'.ownsRow w.heap.size 54 2 sv ((gapsOf thr R l).take most).length (rowL prL ((gapsOf thr R l).take most)) ∧ Below w.heap.size w w' := by
  unfold GapsV
  have eq0 := fun a u => eql_gaps a u
  have h1 : ¬ ((most : Int) < 1) := by omega
  obtain ⟨w2, hw2⟩ : ∃ w2, (w.alloc (.cells #[.int .i64 (most : Nat)] 3)).alloc (.cells #[.slice none 0 0] 49) = w2 := ⟨_, rfl⟩
  have b2 : Below w.heap.size w w2 := by rw [← hw2]; exact ((Below.refl _ _).alloc (Nat.le_refl _) _).alloc (by simp) _
  have S2 : StrIn w.heap.size w2 (w.heap.size + 1) w.heap.size most [] (.slice none 0 0) := by
    rw [← hw2]
    exact ⟨World.ownsRow_nil _ _ _ _, by simp, fun o => by simp, by simp, by omega, fun e => (by cases e), fun e => (by cases e), by omega⟩
  have l8 := World.block_lt_of_cell? _ _ h.c8
  have l7 := World.block_lt_of_cell? _ _ h.c7
  have l5 := World.block_lt_of_cell? _ _ h.c5
  have cG := gaps1_any w.heap.size (w.heap.size + 1) w.heap.size p8 p7 p5 most thr lv l R _ w2 S2 (h.go b2) hl l8 l7 l5 (((h.row.old slL_len).mono fun k hk => hk.2).go slL_len b2) b2.size hm
  obtain ⟨T, hT⟩ : ∃ T, (gapsOf thr R l).take most = T := ⟨_, rfl⟩
  rw [hT] at cG ⊢
  have HW : Hid ((w.alloc (.cells #[.int .i64 (most : Nat)] 3)).alloc (.cells #[.slice none 0 0] 49) = w2) := hw2
  have HB2 : Hid (Below w.heap.size w w2) := b2
  clear hT h S2 b2 hw2
  go_enter Try.func22, Try.ntmps22
  go_wp2_with (go_at_call 48; (try rw [HW.out]); refine cG.mono ?_; rintro e w6 ⟨rfl, sv6, I6, b6⟩; have m5 := I6.c5; have HI6 : Hid (StrIn w.heap.size w6 (w.heap.size + 1) w.heap.size most T sv6) := I6; obtain ⟨xa, xc, xe, _⟩ := own_form I6.row; subst xe; clear I6)
  go_ret
  exact ⟨_, rfl, HI6.out.row, HB2.out.trans b6⟩
end Go.Proofs.Ytddkgkafgjdheaa.Rs
