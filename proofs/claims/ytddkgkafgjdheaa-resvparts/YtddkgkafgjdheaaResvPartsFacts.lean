/-
  What is claimed in parts, in plain words; two pairs of tables; numbers that came in.
-/
import Derived.Test.YtddkgkafgjdheaaResvDo2
import Derived.Test.YtddkgkafgjdheaaResvGapsFacts
namespace Go.Proofs.Ytddkgkafgjdheaa.Rs
set_option linter.unusedVariables false
set_option linter.unusedSimpArgs false
open Go Go.RowKit Go.Shelf Go.Proofs Hp
attribute [local go_sem] Oper.semAt_some

structure Pa (C : Nat) (f t : Int) (l : List Wn) (i : Nat) : Prop where
  c : ∀ x ∈ l, x.c = (C : Nat) ∧ x.f < x.t ∧ f ≤ x.f ∧ x.t ≤ t
  lo : 1048576 - 9 * (i : Int) ≤ f ∧ f ≤ 1048576
  hi : 1048576 ≤ t ∧ t ≤ 1048576 + 9 * (i : Int)
  cov : ∀ y, f ≤ y → y < t → ∃ x ∈ l, x.f ≤ y ∧ y < x.t
  len : l.length ≤ i
theorem Pa.start (C : Nat) : Pa C 1048576 1048576 [] 0 := ⟨fun x h => (by cases h), (by omega), (by omega), fun y h1 h2 => (by omega), (by simp)⟩
theorem Pa.right {C : Nat} {f t : Int} {l : List Wn} {i : Nat} (h : Pa C f t l i) {n : Int} (h1 : 1 ≤ n) (h2 : n ≤ 9) : Pa C f (t + n) (l ++ [⟨(C : Nat), t, t + n⟩]) (i + 1) := by
  have a := h.lo; have b := h.hi
  refine ⟨fun x hx => ?_, by omega, by omega, fun y y1 y2 => ?_, by have := h.len; simp; omega⟩
  · rcases List.mem_append.1 hx with q | q
    · have := h.c x q; omega
    · rw [List.mem_singleton] at q; subst q; exact ⟨rfl, by simp only; omega, by simp only; omega, by simp only; omega⟩
  · rcases Int.lt_or_le y t with q | q
    · obtain ⟨x, hx, k⟩ := h.cov y y1 q; exact ⟨x, List.mem_append_left _ hx, k⟩
    · exact ⟨_, List.mem_append_right _ (List.mem_singleton.2 rfl), by simp only; omega, by simp only; omega⟩
theorem Pa.left {C : Nat} {f t : Int} {l : List Wn} {i : Nat} (h : Pa C f t l i) {n : Int} (h1 : 1 ≤ n) (h2 : n ≤ 9) : Pa C (f - n) t (l ++ [⟨(C : Nat), f - n, f⟩]) (i + 1) := by
  have a := h.lo; have b := h.hi
  refine ⟨fun x hx => ?_, by omega, by omega, fun y y1 y2 => ?_, by have := h.len; simp; omega⟩
  · rcases List.mem_append.1 hx with q | q
    · have := h.c x q; omega
    · rw [List.mem_singleton] at q; subst q; exact ⟨rfl, by simp only; omega, by simp only; omega, by simp only; omega⟩
  · rcases Int.lt_or_le y f with q | q
    · exact ⟨_, List.mem_append_right _ (List.mem_singleton.2 rfl), by simp only; omega, by simp only; omega⟩
    · obtain ⟨x, hx, k⟩ := h.cov y q y2; exact ⟨x, List.mem_append_left _ hx, k⟩
theorem met_iff {l : List Sl} (hl : Ok l) {R f u : Int} (hfu : f < u) : Met l R [⟨f, u, R⟩] ↔ ∃ y r, f ≤ y ∧ y < u ∧ r ≠ R ∧ Has l y r := by
  constructor
  · rintro ⟨s, hs, m, hm, h1, h2, h3⟩
    rw [List.mem_singleton] at hm
    subst hm
    simp only at h2 h3
    have := hl.fit s hs
    unfold Fit at this
    exact ⟨max s.f f, s.r, by omega, by omega, h1, s, hs, rfl, by omega, by omega⟩
  · rintro ⟨y, r, h1, h2, h3, h4⟩
    exact met_at ⟨r, h3, h4⟩ h1 h2
structure Pb (C : Nat) (L : List Sl) (f t : Int) (l : List Wn) (i : Nat) (eb : Int) (lk : List (List Sl)) : Prop where
  gk : Gk 9 C L (1200 + i) lk
  free : ¬ Met L 9 [⟨f, t, 9⟩] → eb = 0 ∧ ∀ y, Has (rowOf lk (C : Nat)) y 9 ↔ Has L y 9 ∨ ∃ x ∈ l.take i, x.f ≤ y ∧ y < x.t
  bad : (∃ x ∈ l.take i, Met L 9 [⟨x.f, x.t, 9⟩]) → eb ≠ 0
theorem Pb.start {C : Nat} {ls : List (List Sl)} (f t : Int) (l : List Wn) (ok : OkT ls) (sm : Small 1200 ls) (hl : ls.length = 6) : Pb C (rowOf ls (C : Nat)) f t l 0 0 ls :=
  ⟨⟨ok, fun x hx => by have := sm x hx; omega, hl, fun _ _ _ => Iff.rfl⟩, fun _ => ⟨rfl, fun y => ⟨Or.inl, fun h => h.elim id fun ⟨x, hx, _⟩ => by simp at hx⟩⟩, fun ⟨x, hx, _⟩ => by simp at hx⟩
theorem want_fit {C : Nat} {f t : Int} {l : List Wn} {i : Nat} (h : Pa C f t l i) (hi : i ≤ 12) {x : Wn} (hx : x ∈ l) : 0 ≤ x.f ∧ x.f < x.t ∧ x.t ≤ FV := by
  have := h.c x hx; have := h.lo; have := h.hi; unfold FV; omega
theorem row_met {C : Nat} {R : Int} {lk : List (List Sl)} (hC : C < lk.length) {x : Wn} (hx : x.c = (C : Nat)) : MetT R [x] lk ↔ Met (rowOf lk (C : Nat)) R [⟨x.f, x.t, R⟩] := by
  obtain ⟨xc, xf, xt⟩ := x
  simp only at hx
  subst hx
  constructor
  · rintro ⟨i, hi, hm⟩
    rw [moreOf_one] at hm
    by_cases e : C = i
    · subst e; rw [if_pos rfl] at hm; rw [rowOf_nat _ C hC]; exact hm
    · rw [if_neg e] at hm; obtain ⟨s, _, m, hm, _⟩ := hm; cases hm
  · intro h
    refine ⟨C, hC, ?_⟩
    rw [moreOf_one, if_pos rfl]
    rw [rowOf_nat _ C hC] at h
    exact h
theorem Pb.next {C : Nat} {L : List Sl} {f t : Int} {l : List Wn} {n i : Nat} {eb e : Int} {lk lk' : List (List Sl)} (h : Pb C L f t l i eb lk) (hL : Ok L) (hC : C < 6) (pa : Pa C f t l n) (hn : n ≤ 12) (hi : i < l.length) (c : ClaimR 9 [l[i]] lk e lk') : (e = 0 ∧ Pb C L f t l (i + 1) eb lk') ∨ (e = 18 ∧ Pb C L f t l (i + 1) 18 lk') := by
  have hx : l[i] ∈ l := List.getElem_mem hi
  have hft := want_fit pa hn hx
  have hcx := pa.c _ hx
  have hlC : C < lk.length := by rw [h.gk.len]; exact hC
  have hb : badArg 9 [l[i]] lk.length = false := by
    have := badArg_one (R := 9) (i := C) (n := lk.length) (by omega) hlC hft
    rw [← hcx.1] at this
    exact this
  have tk : l.take (i + 1) = l.take i ++ [l[i]] := List.take_succ_eq_append_getElem hi
  have okr := h.gk.ok.row (C : Nat)
  have meq : Met (rowOf lk (C : Nat)) 9 [⟨(l[i]).f, (l[i]).t, 9⟩] ↔ Met L 9 [⟨(l[i]).f, (l[i]).t, 9⟩] := by
    rw [met_iff okr hft.2.1, met_iff hL hft.2.1]
    constructor
    · rintro ⟨y, r, h1, h2, h3, h4⟩; exact ⟨y, r, h1, h2, h3, (h.gk.has y r h3).1 h4⟩
    · rintro ⟨y, r, h1, h2, h3, h4⟩; exact ⟨y, r, h1, h2, h3, (h.gk.has y r h3).2 h4⟩
  by_cases hm : MetT 9 [l[i]] lk
  · obtain ⟨he, hs⟩ := c.taken hb hm
    subst hs
    have mL := meq.1 ((row_met hlC hcx.1).1 hm)
    refine Or.inr ⟨he, ⟨⟨h.gk.ok, fun x hx => by have := h.gk.small x hx; omega, h.gk.len, h.gk.has⟩, fun q => absurd ?_ q, fun _ => by omega⟩⟩
    rw [met_iff hL hft.2.1] at mL
    obtain ⟨y, r, h1, h2, h3, h4⟩ := mL
    exact met_at ⟨r, h3, h4⟩ (by omega) (by omega)
  · obtain ⟨he, hln, hW⟩ := c.done hb hm
    subst he
    have nm : ¬ Met L 9 [⟨(l[i]).f, (l[i]).t, 9⟩] := fun q => hm ((row_met hlC hcx.1).2 (meq.2 q))
    have c' : ClaimR 9 [⟨(C : Nat), ((l[i]).f, (l[i]).t).1, ((l[i]).f, (l[i]).t).2⟩] lk 0 lk' := by
      have e : l[i] = ⟨(C : Nat), (l[i]).f, (l[i]).t⟩ := by
        have := hcx.1
        cases hq : l[i] with | mk a b c => rw [hq] at this; simp only at this; rw [this]
      rw [e] at c
      exact c
    have g2 := h.gk.next (p := ((l[i]).f, (l[i]).t)) hC (by omega) hft (fun y h1 h2 r hr hh => nm (met_at ⟨r, hr, hh⟩ h1 h2)) c'
    have w := hW C hlC (by omega)
    have mo : moreOf 9 [l[i]] ((C : Nat) : Int) = [⟨(l[i]).f, (l[i]).t, 9⟩] := by unfold moreOf; simp [hcx.1]
    rw [mo] at w
    refine Or.inl ⟨rfl, ⟨g2, fun q => ⟨(h.free q).1, fun y => ?_⟩, fun ⟨x, hx, hm2⟩ => ?_⟩⟩
    · rw [rowOf_nat _ C (by omega), w.has, ← rowOf_nat _ C hlC, (h.free q).2 y, tk]
      constructor
      · rintro ((k | ⟨x, hx, k⟩) | ⟨s, hs, k1, k2, k3⟩)
        · exact Or.inl k
        · exact Or.inr ⟨x, List.mem_append_left _ hx, k⟩
        · rw [List.mem_singleton] at hs; subst hs; exact Or.inr ⟨_, List.mem_append_right _ (List.mem_singleton.2 rfl), k2, k3⟩
      · rintro (k | ⟨x, hx, k⟩)
        · exact Or.inl (Or.inl k)
        · rcases List.mem_append.1 hx with z | z
          · exact Or.inl (Or.inr ⟨x, z, k⟩)
          · rw [List.mem_singleton] at z; subst z; exact Or.inr ⟨_, List.mem_singleton.2 rfl, rfl, k.1, k.2⟩
    · rw [tk] at hx
      rcases List.mem_append.1 hx with z | z
      · exact h.bad ⟨x, z, hm2⟩
      · rw [List.mem_singleton] at z; subst z; exact absurd hm2 nm
theorem parts_end {C : Nat} {ls lk l1 : List (List Sl)} {f t : Int} {l : List Wn} {n : Nat} {ea eb : Int} (ok : OkT ls) (hl : ls.length = 6) (hC : C < 6) (hft : f < t) (pa : Pa C f t l n) (hn : n ≤ 12) (h : Pb C (rowOf ls (C : Nat)) f t l l.length eb lk) (c : ClaimR 9 [⟨(C : Nat), f, t⟩] ls ea l1) : (ea = 0 ∧ eb = 0 ∧ rowOf l1 (C : Nat) = rowOf lk (C : Nat)) ∨ (ea = 18 ∧ eb ≠ 0) := by
  have hlC : C < ls.length := by omega
  have okr := ok.row (C : Nat)
  have hfx : 0 ≤ f ∧ f < t ∧ t ≤ FV := by have := pa.lo; have := pa.hi; unfold FV; omega
  have hb : badArg 9 [⟨(C : Nat), f, t⟩] ls.length = false := badArg_one (by omega) hlC hfx
  by_cases hm : Met (rowOf ls (C : Nat)) 9 [⟨f, t, 9⟩]
  · refine Or.inr ⟨(c.taken hb ((row_met (x := ⟨(C : Nat), f, t⟩) hlC rfl).2 hm)).1, h.bad ?_⟩
    rw [met_iff okr hft] at hm
    obtain ⟨y, r, h1, h2, h3, h4⟩ := hm
    obtain ⟨x, hx, k1, k2⟩ := pa.cov y h1 h2
    exact ⟨x, by rw [List.take_length]; exact hx, met_at ⟨r, h3, h4⟩ k1 k2⟩
  · obtain ⟨he, hln, hW⟩ := c.done hb fun q => hm ((row_met (x := ⟨(C : Nat), f, t⟩) hlC rfl).1 q)
    obtain ⟨h0, hh⟩ := h.free hm
    refine Or.inl ⟨he, h0, ?_⟩
    have w := hW C hlC (by omega)
    rw [moreOf_one, if_pos rfl] at w
    refine ok_ext (by rw [rowOf_nat _ C (by omega)]; exact w.ok) (h.gk.ok.row _) fun y r => ?_
    rw [rowOf_nat _ C (by omega), w.has, ← rowOf_nat _ C hlC]
    by_cases hr : r = 9
    · subst hr
      rw [hh y, List.take_length]
      constructor
      · rintro (k | ⟨s, hs, _, k1, k2⟩)
        · exact Or.inl k
        · rw [List.mem_singleton] at hs; subst hs; exact Or.inr (pa.cov y k1 k2)
      · rintro (k | ⟨x, hx, k1, k2⟩)
        · exact Or.inl k
        · have := pa.c x hx
          exact Or.inr ⟨_, List.mem_singleton.2 rfl, rfl, by simp only; omega, by simp only; omega⟩
    · rw [h.gk.has y r hr]
      exact ⟨fun k => k.elim id fun k => absurd (has_more_r (R := 9) (fun s hs => by rw [List.mem_singleton] at hs; rw [hs]) k) hr, Or.inl⟩
/- Two pairs of tables. -/
def Pq (w00 : World) (b c d e i : Nat) (ls1 ls2 : List (List Sl)) (w : World) : Prop := ∃ (F G H K : Nat → Prop), TAt F w b ls1 ∧ TAt G w c ls1 ∧ TAt H w d ls2 ∧ TAt K w e ls2 ∧ (∀ k, G k → ¬ F k) ∧ (∀ k, K k → ¬ H k) ∧ (∀ k, H k → ¬ F k ∧ ¬ G k) ∧ (∀ k, K k → ¬ F k ∧ ¬ G k) ∧ Below w00.heap.size w00 w ∧ (∀ k, F k ∨ G k ∨ H k ∨ K k → w00.heap.size ≤ k) ∧ OkT ls1 ∧ OkT ls2 ∧ Small (60 * i) ls1 ∧ ls1.length = 6 ∧ ls2.length = 6
theorem Pq.bw {w00 w : World} {b c d e i : Nat} {ls1 ls2 : List (List Sl)} (h : Pq w00 b c d e i ls1 ls2 w) : Below w00.heap.size w00 w := by
  obtain ⟨F, G, H, K, _, _, _, _, _, _, _, _, h, _⟩ := h; exact h
theorem Pq.swap {w00 w : World} {b c d e i j : Nat} {ls1 ls2 : List (List Sl)} (h : Pq w00 b c d e i ls1 ls2 w) (hs : Small (60 * j) ls2) : Pq w00 d e b c j ls2 ls1 w := by
  obtain ⟨F, G, H, K, h1, h2, h3, h4, h5, h6, h7, h8, h9, h10, h11, h12, h13, h14, h15⟩ := h
  exact ⟨H, K, F, G, h3, h4, h1, h2, h6, h5, fun k hk => ⟨fun q => (h7 k q).1 hk, fun q => (h8 k q).1 hk⟩, fun k hk => ⟨fun q => (h7 k q).2 hk, fun q => (h8 k q).2 hk⟩, h9, fun k hk => h10 k (by rcases hk with q | q | q | q; exact Or.inr (Or.inr (Or.inl q)); exact Or.inr (Or.inr (Or.inr q)); exact Or.inl q; exact Or.inr (Or.inl q)), h12, h11, hs, h15, h14⟩
theorem do_one {w00 : World} {b c d e i : Nat} {ls1 ls2 : List (List Sl)} {w : World} (h : Pq w00 b c d e i ls1 ls2 w) (hi : i < 60) (x : Cl) (hin : InW w00 x.a x.n x.cap x.ws) (hn : x.n ≤ 60) : Calls Try.prog 16 #[.pointer (some ⟨b, 0, none⟩), .pointer (some ⟨c, 0, none⟩), .agg #[.int .i64 x.kd, .int .i64 x.r, .int .i64 x.c, .int .i64 x.ti, .int .i64 x.by_, .slice x.a x.n x.cap]] w fun r w' => r = .returned (.bool true) ∧ ∃ l', DoRel (place x.kd 8) x.r x.c x.ti x.by_ x.ws ls1 l' ∧ Small (60 * (i + 1)) l' ∧ Pq w00 b c d e (i + 1) l' ls2 w' := by
  obtain ⟨F, G, H, K, h1, h2, h3, h4, h5, h6, h7, h8, h9, h10, h11, h12, h13, h14, h15⟩ := h
  refine (do_all w00 F G b c ls1 x.kd x.r x.c x.ti x.by_ x.a x.n x.cap x.ws (60 * i) w hin hn h1 h2 h5 h9 (fun k hk => h10 k (Or.inl hk)) (fun k hk => h10 k (Or.inr (Or.inl hk))) h11 h13 (by omega) (by omega) (by omega)).mono ?_
  rintro r w' ⟨F', G', l', he, k1, k2, k3, k4, k5, k6, k7, k8, k9, k10, k11, k12, k13, k14⟩
  have old : ∀ k, (H k ∨ K k) → k < w.heap.size := fun k hk => hk.elim (h3.low k) (h4.low k)
  have hs : Small (60 * (i + 1)) l' := fun l hl => by have := k8 l hl; omega
  refine ⟨he, l', k10, hs, F', G', H, K, k1, k2, h3.same k11 fun k hk => k12 k (h3.low k hk) (h7 k hk).1 (h7 k hk).2, h4.same k11 fun k hk => k12 k (h4.low k hk) (h8 k hk).1 (h8 k hk).2, k3, h6, fun k hk => ⟨fun q => ?_, fun q => ?_⟩, fun k hk => ⟨fun q => ?_, fun q => ?_⟩, k4, fun k hk => ?_, k7, h12, hs, by omega, h15⟩
  · rcases k13 k q with z | z
    · exact (h7 k hk).1 z
    · have := h3.low k hk; omega
  · rcases k14 k q with z | z
    · exact (h7 k hk).2 z
    · have := h3.low k hk; omega
  · rcases k13 k q with z | z
    · exact (h8 k hk).1 z
    · have := h4.low k hk; omega
  · rcases k14 k q with z | z
    · exact (h8 k hk).2 z
    · have := h4.low k hk; omega
  · rcases hk with q | q | q | q
    · exact k5 k q
    · exact k6 k q
    · exact h10 k (Or.inr (Or.inr (Or.inl q)))
    · exact h10 k (Or.inr (Or.inr (Or.inr q)))
/- A call at the first pair, the same call at the second. -/
def P2 (w00 : World) (b c d e i : Nat) (w : World) : Prop := ∃ ls, Pq w00 b c d e i ls ls w
theorem P2.bw {w00 w : World} {b c d e i : Nat} (h : P2 w00 b c d e i w) : Below w00.heap.size w00 w := by obtain ⟨_, h⟩ := h; exact h.bw
def P2h (w00 : World) (b c d e i : Nat) (x : Cl) (w : World) : Prop := ∃ ls l', DoRel (place x.kd 8) x.r x.c x.ti x.by_ x.ws ls l' ∧ Small (60 * i) ls ∧ Pq w00 b c d e (i + 1) l' ls w
theorem P2h.bw {w00 w : World} {b c d e i : Nat} {x : Cl} (h : P2h w00 b c d e i x w) : Below w00.heap.size w00 w := by obtain ⟨_, _, _, _, h⟩ := h; exact h.bw
theorem do_half {w00 : World} {b c d e i : Nat} {w : World} (h : P2 w00 b c d e i w) (hi : i < 60) (x : Cl) (hin : InW w00 x.a x.n x.cap x.ws) (hn : x.n ≤ 60) : Calls Try.prog 16 #[.pointer (some ⟨b, 0, none⟩), .pointer (some ⟨c, 0, none⟩), .agg #[.int .i64 x.kd, .int .i64 x.r, .int .i64 x.c, .int .i64 x.ti, .int .i64 x.by_, .slice x.a x.n x.cap]] w fun r w' => r = .returned (.bool true) ∧ P2h w00 b c d e i x w' := by
  obtain ⟨ls, h⟩ := h
  have hs : Small (60 * i) ls := by obtain ⟨_, _, _, _, _, _, _, _, _, _, _, _, _, _, _, _, q, _⟩ := h; exact q
  exact (do_one h hi x hin hn).mono fun r w' ⟨he, l', r1, r2, r3⟩ => ⟨he, ls, l', r1, hs, r3⟩
theorem do_other {w00 : World} {b c d e i : Nat} {x : Cl} {w : World} (h : P2h w00 b c d e i x w) (hi : i < 60) (hin : InW w00 x.a x.n x.cap x.ws) (hn : x.n ≤ 60) : Calls Try.prog 16 #[.pointer (some ⟨d, 0, none⟩), .pointer (some ⟨e, 0, none⟩), .agg #[.int .i64 x.kd, .int .i64 x.r, .int .i64 x.c, .int .i64 x.ti, .int .i64 x.by_, .slice x.a x.n x.cap]] w fun r w' => r = .returned (.bool true) ∧ P2 w00 b c d e (i + 1) w' := by
  obtain ⟨ls, l', hr, hs, h⟩ := h
  have hs1 : Small (60 * (i + 1)) l' := by obtain ⟨_, _, _, _, _, _, _, _, _, _, _, _, _, _, _, _, q, _⟩ := h; exact q
  refine (do_one (h.swap hs) hi x hin hn).mono fun r w' ⟨he, l2, r1, r2, r3⟩ => ⟨he, l', ?_⟩
  have := r1.unique hr
  subst this
  exact r3.swap hs1
/- A part of wants that were laid. -/
theorem part_wn {F : Nat → Prop} {w : World} {v : Value} {l : List Wn} (h : RowAt wnL F w v l) (i : Nat) (hi : i < l.length) : ∃ v', (∀ u, (Instr.sliceAt 31 v (some (.int .i64 (i : Nat))) (some (.int .i64 ((i : Int) + 1))) none).run Try.prog u = .ok v' u) ∧ RowAt wnL F w v' [l[i]] := by
  rcases h with ⟨rfl, rfl⟩ | ⟨g, o, cap, rfl, h1, h2, h3, h4⟩
  · simp at hi
  · have a1 : (i : Int) ≤ (i : Int) + 1 := by omega
    have a2 : (i : Int) + 1 ≤ (cap : Int) := by omega
    have hc : ¬ cap = i := by omega
    have e : (l.drop i).take 1 = [l[i]] := by rw [List.drop_eq_getElem_cons hi, List.take_succ_cons, List.take_zero]
    refine ⟨.slice (some ⟨g, o + i * 3, none⟩) 1 (cap - i), ?_, Or.inr ⟨g, o + i * 3, cap - i, rfl, by simp; omega, by omega, fun _ => h3 (by omega), by rw [← e]; exact (h4.drop wnL_len i).take wnL_len 1⟩⟩
    intro u
    go_simp
    try omega
/- Numbers that came in. -/
structure InN (w : World) (a : Option Addr) (n cap : Nat) (zs : List Int) : Prop where
  len : zs.length = n
  lay : ∀ i (hi : i < zs.length), ∃ p : Addr, a = some p ∧ w.cell? (p.add i) = some (.int .i64 zs[i])
theorem InN.go {w w' : World} {a : Option Addr} {n cap : Nat} {zs : List Int} (h : InN w a n cap zs) (hb : Below w.heap.size w w') : InN w' a n cap zs :=
  ⟨h.len, fun i hi => by obtain ⟨p, e, c⟩ := h.lay i hi; exact ⟨p, e, (hb.cell (World.block_lt_of_cell? _ _ c)).trans c⟩⟩
theorem in_nums {H : Type} {enc : TypeId × Value → H} {W : World} {n : Nat} {cs : List Value} {d : DataW H × List MemPlace} (h : DataW.trod enc Try.prog W 0 (fun _ => true) true n 64 cs = some d) : ∃ a n cap zs, cs = [.slice a n cap] ∧ InN W a n cap zs := by
  rcases Go.Deep.open_slice Try.underlying64 h with ⟨hcs, hd⟩ | ⟨x, l, cp, mm, k, D, Pl, hcs, _, hl, hm, hmm, hd, hx⟩
  · exact ⟨none, 0, 0, [], hcs, rfl, fun i hi => by simp at hi⟩
  · refine ⟨some x, l, cp, ?_⟩
    have each : ∀ i, i < l → ∃ z : Int, W.cell? (x.add i) = some (.int .i64 z) := fun i hi => by
      obtain ⟨cs', k1, k2⟩ := hx i (by simp at hmm; omega)
      rw [show Try.prog.cellsOf 3 = 1 by kernel_rfl] at k1
      obtain ⟨z, rfl⟩ := in_int k2
      obtain ⟨_, hlen, hc⟩ := World.cells?_some k1
      have := hc 0 (by omega)
      rw [Nat.mul_one] at this
      rw [add_add', Nat.add_zero] at this
      exact ⟨z, this⟩
    obtain ⟨z, hz⟩ := Go.Deep.choose_lt each
    refine ⟨(List.range l).map z, hcs, by simp, fun i hi => ⟨x, rfl, ?_⟩⟩
    rw [List.length_map, List.length_range] at hi
    rw [List.getElem_map, List.getElem_range]
    exact hz i hi
end Go.Proofs.Ytddkgkafgjdheaa.Rs
