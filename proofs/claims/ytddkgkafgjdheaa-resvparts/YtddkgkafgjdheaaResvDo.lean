/-
  A call at both tables: they answer alike.
-/
import Derived.Test.YtddkgkafgjdheaaResvRefWants
import Derived.Test.YtddkgkafgjdheaaResvRefCut
namespace Go.Proofs.Ytddkgkafgjdheaa.Rs
set_option linter.unusedVariables false
set_option linter.unusedSimpArgs false
open Go Go.RowKit Go.Shelf Go.Proofs Hp
attribute [local go_sem] Oper.semAt_some

/- Two tables, the box of what is asked, all behind a world that stays. -/
structure Bo (w00 W1 : World) (q b c : Nat) (F G : Nat → Prop) (lf lg : List (List Sl)) (u : World) : Prop where
  tf : TAt F u b lf
  tg : TAt G u c lg
  off : ∀ k, G k → ¬ F k
  bw : Below w00.heap.size w00 u
  fF : ∀ k, F k → w00.heap.size ≤ k
  fG : ∀ k, G k → w00.heap.size ≤ k
  nF : ¬ F q
  nG : ¬ G q
  hq : q < W1.heap.size
  box : u.heap[q]? = W1.heap[q]?
  sz : W1.heap.size ≤ u.heap.size
section
variable {w00 W1 u u' : World} {q b c : Nat} {F G F' G' : Nat → Prop} {lf lg l' : List (List Sl)}
theorem Bo.below (h : Bo w00 W1 q b c F G lf lg u) (k : Below u.heap.size u u') : Bo w00 W1 q b c F G lf lg u' :=
  ⟨h.tf.go k, h.tg.go k, h.off, bcat h.bw k, h.fF, h.fG, h.nF, h.nG, h.hq, (k.block q (Nat.lt_of_lt_of_le h.hq h.sz)).trans h.box, Nat.le_trans h.sz k.size⟩
theorem Bo.one (h : Bo w00 W1 q b c F G lf lg u) (T : TAt F' u' b l') (t : Tn F F' u u') : Bo w00 W1 q b c F' G l' lg u' :=
  have hq' := Nat.lt_of_lt_of_le h.hq h.sz
  ⟨T, h.tg.beside t h.off, t.apart h.off h.tg.low, (t.past h.bw h.fF).1, (t.past h.bw h.fF).2, h.fG, fun e => by rcases t.own q e with z | z; exact h.nF z; omega, h.nG, h.hq, (t.block q hq' h.nF).trans h.box, Nat.le_trans h.sz t.size⟩
theorem Bo.two (h : Bo w00 W1 q b c F G lf lg u) (T : TAt G' u' c l') (t : Tn G G' u u') : Bo w00 W1 q b c F G' lf l' u' :=
  have hq' := Nat.lt_of_lt_of_le h.hq h.sz
  have ho : ∀ k, F k → ¬ G k := fun k a e => h.off k e a
  ⟨h.tf.beside t ho, T, fun k a e => t.apart ho h.tf.low k e a, (t.past h.bw h.fG).1, h.fF, (t.past h.bw h.fG).2, h.nF, fun e => by rcases t.own q e with z | z; exact h.nG z; omega, h.hq, (t.block q hq' h.nG).trans h.box, Nat.le_trans h.sz t.size⟩
theorem row_past {N : Nat} {lv : Value} {ws : List Wn} (R : RowAt wnL (fun k => N ≤ k) u lv ws) (hF : ∀ k, F k → k < N) (t : Tn F F' u u') : RowAt wnL (fun k => N ≤ k) u' lv ws :=
  ((R.old wnL_len).same fun k hk => t.block k hk.2 (fun e => by have := hF k e; have := hk.1; omega)).mono fun k hk => hk.1
end
def DoPost (w00 : World) (b c m n : Nat) (e : Ending) (w' : World) : Prop := ∃ (F G : Nat → Prop) (ls : List (List Sl)), e = .returned (.bool true) ∧ TAt F w' b ls ∧ TAt G w' c ls ∧ (∀ k, G k → ¬ F k) ∧ Below w00.heap.size w00 w' ∧ (∀ k, F k → w00.heap.size ≤ k) ∧ (∀ k, G k → w00.heap.size ≤ k) ∧ OkT ls ∧ Small (m + 60) ls ∧ ls.length = n
theorem Bo.fin {w00 W1 u : World} {q b c m n : Nat} {F G : Nat → Prop} {l1 l2 : List (List Sl)} (h : Bo w00 W1 q b c F G l1 l2 u) (e : l1 = l2) (ok : OkT l1) (sm : Small (m + 60) l1) (hn : l1.length = n) {x : Bool} (hx : x = true) : DoPost w00 b c m n (.returned (.bool x)) u := by
  subst e; subst hx
  exact ⟨F, G, l1, rfl, h.tf, h.tg, h.off, h.bw, h.fF, h.fG, ok, sm, hn⟩
section
variable {F P : Nat → Prop} {b : Nat} {ls : List (List Sl)} {R c ti by_ : Int} {lv : Value} {ws : List Wn} {m : Nat} {u : World}
theorem claimC (h : TAt F u b ls) (hl : OkT ls) (hs : Small m ls) (hn : 0 < ls.length) (hn2 : ls.length ≤ 1000000) (RW : RowAt wnL P u lv ws) (hb : m + ws.length ≤ 900000000) : Calls Try.prog 19 #[.pointer (some ⟨b, 0, none⟩), .int .i64 R, lv] u fun e w' => ∃ v, e = .returned v ∧ ∃ x, v = .int .i64 x ∧ ∃ l' F', TAt F' w' b l' ∧ Tn F F' u w' ∧ ClaimR R ws ls x l' :=
  (claim_any F P b ls R lv ws m u h hl hs hn hn2 RW (by omega)).mono fun e w' ⟨x, l', F', he, h1, h2, h3⟩ => ⟨_, he, x, rfl, l', F', h1, h2, h3⟩
theorem rclaimC (h : TAt F u b ls) (hl : OkT ls) (hs : Small m ls) (hn : 0 < ls.length) (RW : RowAt wnL P u lv ws) (hP : ∀ k, P k → ¬ F k) (hb : m + ws.length ≤ 900000000) : Calls Try.prog 34 #[.pointer (some ⟨b, 0, none⟩), .int .i64 R, lv] u fun e w' => ∃ v, e = .returned v ∧ ∃ x, v = .int .i64 x ∧ ∃ l' F', TAt F' w' b l' ∧ Tn F F' u w' ∧ ClaimR R ws ls x l' :=
  (rclaim_any F P b ls R lv ws m u h hl hs hn RW hP hb).mono fun e w' ⟨x, l', F', he, h1, h2, h3⟩ => ⟨_, he, x, rfl, l', F', h1, h2, h3⟩
theorem extC (h : TAt F u b ls) (hl : OkT ls) (hs : Small m ls) (hm : m ≤ 999999999) : Calls Try.prog 28 #[.pointer (some ⟨b, 0, none⟩), .int .i64 R, .int .i64 c, .int .i64 ti, .int .i64 by_] u fun e w' => ∃ v, e = .returned v ∧ ∃ x, v = .int .i64 x ∧ ∃ l' F', TAt F' w' b l' ∧ Tn F F' u w' ∧ ExtR R c ti by_ ls x l' :=
  (extend_any F b ls R c ti by_ m u h hl hs hm).mono fun e w' ⟨x, l', F', he, h1, h2, h3⟩ => ⟨_, he, x, rfl, l', F', h1, h2, h3⟩
theorem rextC (h : TAt F u b ls) (hl : OkT ls) (hs : Small m ls) (hm : m ≤ 999999999) : Calls Try.prog 30 #[.pointer (some ⟨b, 0, none⟩), .int .i64 R, .int .i64 c, .int .i64 ti, .int .i64 by_] u fun e w' => ∃ v, e = .returned v ∧ ∃ x, v = .int .i64 x ∧ ∃ l' F', TAt F' w' b l' ∧ Tn F F' u w' ∧ ExtR R c ti by_ ls x l' :=
  (rextend_any F b ls R c ti by_ m u h hl hs hm).mono fun e w' ⟨x, l', F', he, h1, h2, h3⟩ => ⟨_, he, x, rfl, l', F', h1, h2, h3⟩
theorem wantsC {a : Option Addr} {n cap N : Nat} (h : InW u a n cap ws) (hn : n ≤ 60) (hN : N ≤ u.heap.size) : Calls Try.prog 35 #[.slice a n cap] u fun e w' => ∃ v, e = .returned v ∧ ∃ va vc, v = .slice va n vc ∧ RowAt wnL (fun k => N ≤ k) w' (.slice va n vc) ws ∧ Below u.heap.size u w' :=
  (wants_any a n cap ws u h hn).mono fun e w' ⟨va, vc, he, o, hb⟩ => ⟨_, he, va, vc, rfl, (row_of_own wnL_len (by rw [h.len]; exact o)).mono fun k hk => Nat.le_trans hN hk.2.1, hb⟩
theorem appC {a : Option Addr} {n cap N : Nat} (h : InW u a n cap ws) (hn : n ≤ 60) (hN : N ≤ u.heap.size) : ∃ va vn vc w', (Builtin.append_ #[31, 31] 31 #[.slice none 0 0, .slice a n cap]).run Try.prog u = .ok (.slice va vn vc) w' ∧ RowAt wnL (fun k => N ≤ k) w' (.slice va vn vc) ws ∧ Below u.heap.size u w' := by
  obtain ⟨v, w', hr, o, g, _⟩ := run_app (xs := []) kindWn (World.ownsRow_nil u u.heap.size _ _) h.lay (by rw [h.len]; simp only [List.length_nil]; omega) (by rw [h.len]; unfold maxLen; simp only [List.length_nil]; omega) (Nat.le_refl _) 31
  rw [List.nil_append] at o
  have R := (row_of_own wnL_len o).mono (G := fun k => N ≤ k) fun k hk => Nat.le_trans hN hk.2.1
  obtain ⟨va, vc, ev, _⟩ := R.form
  subst ev
  exact ⟨va, _, vc, w', hr, R, (Below.refl _ _).grown g (Nat.le_refl _) (fun z hz => by cases hz)⟩
end
theorem cut_okT {p : Int → Bool} {u : Int} {ls : List (List Sl)} (h : OkT ls) : OkT (ls.map (cutL p u)) := fun l hl => by
  obtain ⟨x, hx, rfl⟩ := List.mem_map.1 hl
  exact cut_ok p u (h x hx)
theorem cut_small {p : Int → Bool} {u : Int} {m : Nat} {ls : List (List Sl)} (h : Small m ls) : Small m (ls.map (cutL p u)) := fun l hl => by
  obtain ⟨x, hx, rfl⟩ := List.mem_map.1 hl
  have := cutL_len p u x
  have := h x hx
  omega
set_option maxRecDepth 100000 in
set_option maxHeartbeats 4000000 in
theorem do_any (w00 : World) (F G : Nat → Prop) (b c : Nat) (ls : List (List Sl)) (kd R cl ti by_ : Int) (a : Option Addr) (n cap : Nat) (ws : List Wn) (m : Nat) (w : World)
    (hin : InW w00 a n cap ws) (hn60 : n ≤ 60) (TF : TAt F w b ls) (TG : TAt G w c ls) (hoff : ∀ k, G k → ¬ F k) (hbw : Below w00.heap.size w00 w) (hF : ∀ k, F k → w00.heap.size ≤ k) (hG : ∀ k, G k → w00.heap.size ≤ k) (hl : OkT ls) (hs : Small m ls) (hm : m ≤ 800000000) (hn0 : 0 < ls.length) (hn1 : ls.length ≤ 1000000) :
    Calls Try.prog 16 #[.pointer (some ⟨b, 0, none⟩), .pointer (some ⟨c, 0, none⟩), .agg #[.int .i64 kd, .int .i64 R, .int .i64 cl, .int .i64 ti, .int .i64 by_, .slice a n cap]] w (DoPost w00 b c m ls.length) := by
  obtain ⟨W1, hW1⟩ : ∃ W1, w.alloc (.cells #[.int .i64 kd, .int .i64 R, .int .i64 cl, .int .i64 ti, .int .i64 by_, .slice a n cap] 33) = W1 := ⟨_, rfl⟩
  have b1 : Below w.heap.size w W1 := by rw [← hW1]; exact (Below.refl _ _).alloc (Nat.le_refl _) _
  have x0 : W1.cell? ⟨w.heap.size, 0, none⟩ = some (.int .i64 kd) := by rw [← hW1]; simp
  have x1 : W1.cell? ⟨w.heap.size, 1, none⟩ = some (.int .i64 R) := by rw [← hW1]; simp
  have x2 : W1.cell? ⟨w.heap.size, 2, none⟩ = some (.int .i64 cl) := by rw [← hW1]; simp
  have x3 : W1.cell? ⟨w.heap.size, 3, none⟩ = some (.int .i64 ti) := by rw [← hW1]; simp
  have x4 : W1.cell? ⟨w.heap.size, 4, none⟩ = some (.int .i64 by_) := by rw [← hW1]; simp
  have x5 : W1.cell? ⟨w.heap.size, 5, none⟩ = some (.slice a n cap) := by rw [← hW1]; simp
  have hq : w.heap.size < W1.heap.size := World.block_lt_of_cell? _ _ x0
  have B1 : Bo w00 W1 w.heap.size b c F G ls ls W1 := ⟨TF.go b1, TG.go b1, hoff, bcat hbw b1, hF, hG, fun e => absurd (TF.low _ e) (Nat.lt_irrefl _), fun e => absurd (TG.low _ e) (Nat.lt_irrefl _), hq, rfl, Nat.le_refl _⟩
  have HF1 : Hid (∀ k, F k → k < W1.heap.size) := fun k hk => Nat.lt_trans (TF.low k hk) hq
  have HG1 : Hid (∀ k, G k → k < W1.heap.size) := fun k hk => Nat.lt_trans (TG.low k hk) hq
  have HB1 : Hid (Bo w00 W1 w.heap.size b c F G ls ls W1) := B1
  have HIN : Hid (InW w00 a n cap ws) := hin
  have HL : Hid (OkT ls) := hl
  have HS : Hid (Small m ls) := hs
  have HS60 : Hid (Small (m + 60) ls) := fun l hl' => by have := hs l hl'; omega
  have hwl : Hid (ws.length = n) := hin.len
  have HW1 : Hid (w.alloc (.cells #[.int .i64 kd, .int .i64 R, .int .i64 cl, .int .i64 ti, .int .i64 by_, .slice a n cap] 33) = W1) := hW1
  have pm := place_bd kd 8 (by omega)
  have cM := fun u => place_any kd 8 u (by omega) (by omega)
  obtain ⟨pk, hpk⟩ : ∃ p, place kd 8 = p := ⟨_, rfl⟩
  simp only [hpk] at cM
  rw [hpk] at pm
  obtain ⟨SH, hSH⟩ : ∃ S : World → Prop, S = fun u => u.heap[w.heap.size]? = W1.heap[w.heap.size]? := ⟨_, rfl⟩
  have hS : SH W1.drew := by rw [hSH]; rfl
  have k1 : ∀ u, SH u → u.cell? ⟨w.heap.size, 1, none⟩ = some (.int .i64 R) := fun u hu => by rw [hSH] at hu; exact (cell_same hu).trans x1
  have k2 : ∀ u, SH u → u.cell? ⟨w.heap.size, 2, none⟩ = some (.int .i64 cl) := fun u hu => by rw [hSH] at hu; exact (cell_same hu).trans x2
  have k3 : ∀ u, SH u → u.cell? ⟨w.heap.size, 3, none⟩ = some (.int .i64 ti) := fun u hu => by rw [hSH] at hu; exact (cell_same hu).trans x3
  have k4 : ∀ u, SH u → u.cell? ⟨w.heap.size, 4, none⟩ = some (.int .i64 by_) := fun u hu => by rw [hSH] at hu; exact (cell_same hu).trans x4
  have k5 : ∀ u, SH u → u.cell? ⟨w.heap.size, 5, none⟩ = some (.slice a n cap) := fun u hu => by rw [hSH] at hu; exact (cell_same hu).trans x5
  have BD : Hid (Bo w00 W1 w.heap.size b c F G ls ls W1.drew) := B1.below (Below.refl _ _).drew
  clear hpk TF TG hoff hF hG hl hs hin hW1 B1 hbw b1
  by_cases e4 : pk = 4
  · subst e4
    go_enter Try.func16, Try.ntmps16
    go_wp2_with (go_at_call 21; (try rw [HW1.out]); refine (cM _).mono ?_; rintro _ w3 ⟨rfl, rfl⟩)
    refine start_held (S := SH) 22 rfl (by kernel_rfl) (hS) ?_
    simp only [Array.replicate_succ, Array.replicate_zero, List.push_toArray, List.nil_append, List.cons_append]
    refine take_held 0 (by assumption) rfl (by kernel_rfl) (by kernel_rfl) (by kernel_rfl) (fun _ _ _ h => h) (by kernel_rfl) (v := ?v0) ?y0 ?r0
    case y0 => (intro u hu; go_simp; try rfl)
    simp only [Act.put, List.setIfInBounds_toArray, List.set_cons_zero, List.set_cons_succ]
    refine take_held 1 (by assumption) rfl (by kernel_rfl) (by kernel_rfl) (by kernel_rfl) (fun _ _ _ h => h) (by kernel_rfl) (v := ?v1) ?y1 ?r1
    case y1 => (intro u hu; go_simp; try rfl)
    simp only [Act.put, List.setIfInBounds_toArray, List.set_cons_zero, List.set_cons_succ]
    refine take_held 2 (by assumption) rfl (by kernel_rfl) (by kernel_rfl) (by kernel_rfl) (fun _ _ _ h => h) (by kernel_rfl) (v := ?v2) ?y2 ?r2
    case y2 => (intro u hu; have zz0 := k1 u hu; go_simp; try rfl)
    simp only [Act.put, List.setIfInBounds_toArray, List.set_cons_zero, List.set_cons_succ]
    refine take_held 3 (by assumption) rfl (by kernel_rfl) (by kernel_rfl) (by kernel_rfl) (fun _ _ _ h => h) (by kernel_rfl) (v := ?v3) ?y3 ?r3
    case y3 => (intro u hu; go_simp; try rfl)
    simp only [Act.put, List.setIfInBounds_toArray, List.set_cons_zero, List.set_cons_succ]
    refine take_held 4 (by assumption) rfl (by kernel_rfl) (by kernel_rfl) (by kernel_rfl) (fun _ _ _ h => h) (by kernel_rfl) (v := ?v4) ?y4 ?r4
    case y4 => (intro u hu; have zz0 := k2 u hu; go_simp; try rfl)
    simp only [Act.put, List.setIfInBounds_toArray, List.set_cons_zero, List.set_cons_succ]
    refine take_held 5 (by assumption) rfl (by kernel_rfl) (by kernel_rfl) (by kernel_rfl) (fun _ _ _ h => h) (by kernel_rfl) (v := ?v5) ?y5 ?r5
    case y5 => (intro u hu; go_simp; try rfl)
    simp only [Act.put, List.setIfInBounds_toArray, List.set_cons_zero, List.set_cons_succ]
    refine take_held 6 (by assumption) rfl (by kernel_rfl) (by kernel_rfl) (by kernel_rfl) (fun _ _ _ h => h) (by kernel_rfl) (v := ?v6) ?y6 ?r6
    case y6 => (intro u hu; have zz0 := k3 u hu; go_simp; try rfl)
    simp only [Act.put, List.setIfInBounds_toArray, List.set_cons_zero, List.set_cons_succ]
    refine take_held 7 (by assumption) rfl (by kernel_rfl) (by kernel_rfl) (by kernel_rfl) (fun _ _ _ h => h) (by kernel_rfl) (v := ?v7) ?y7 ?r7
    case y7 => (intro u hu; go_simp; try rfl)
    simp only [Act.put, List.setIfInBounds_toArray, List.set_cons_zero, List.set_cons_succ]
    refine take_held 8 (by assumption) rfl (by kernel_rfl) (by kernel_rfl) (by kernel_rfl) (fun _ _ _ h => h) (by kernel_rfl) (v := ?v8) ?y8 ?r8
    case y8 => (intro u hu; have zz0 := k4 u hu; go_simp; try rfl)
    simp only [Act.put, List.setIfInBounds_toArray, List.set_cons_zero, List.set_cons_succ]
    refine take_held 10 (by assumption) rfl (by kernel_rfl) (by kernel_rfl) (by kernel_rfl) (fun _ _ _ h => h) (by kernel_rfl) (v := ?v9) ?y9 ?r9
    case y9 => (intro u hu; go_simp; try rfl)
    simp only [Act.put, List.setIfInBounds_toArray, List.set_cons_zero, List.set_cons_succ]
    refine take_held 11 (by assumption) rfl (by kernel_rfl) (by kernel_rfl) (by kernel_rfl) (fun _ _ _ h => h) (by kernel_rfl) (v := ?v10) ?y10 ?r10
    case y10 => (intro u hu; go_simp; try rfl)
    simp only [Act.put, List.setIfInBounds_toArray, List.set_cons_zero, List.set_cons_succ]
    refine take_held 12 (by assumption) rfl (by kernel_rfl) (by kernel_rfl) (by kernel_rfl) (fun _ _ _ h => h) (by kernel_rfl) (v := ?v11) ?y11 ?r11
    case y11 => (intro u hu; have zz0 := k1 u hu; go_simp; try rfl)
    simp only [Act.put, List.setIfInBounds_toArray, List.set_cons_zero, List.set_cons_succ]
    refine take_held 13 (by assumption) rfl (by kernel_rfl) (by kernel_rfl) (by kernel_rfl) (fun _ _ _ h => h) (by kernel_rfl) (v := ?v12) ?y12 ?r12
    case y12 => (intro u hu; go_simp; try rfl)
    simp only [Act.put, List.setIfInBounds_toArray, List.set_cons_zero, List.set_cons_succ]
    refine take_held 14 (by assumption) rfl (by kernel_rfl) (by kernel_rfl) (by kernel_rfl) (fun _ _ _ h => h) (by kernel_rfl) (v := ?v13) ?y13 ?r13
    case y13 => (intro u hu; have zz0 := k2 u hu; go_simp; try rfl)
    simp only [Act.put, List.setIfInBounds_toArray, List.set_cons_zero, List.set_cons_succ]
    refine take_held 15 (by assumption) rfl (by kernel_rfl) (by kernel_rfl) (by kernel_rfl) (fun _ _ _ h => h) (by kernel_rfl) (v := ?v14) ?y14 ?r14
    case y14 => (intro u hu; go_simp; try rfl)
    simp only [Act.put, List.setIfInBounds_toArray, List.set_cons_zero, List.set_cons_succ]
    refine take_held 16 (by assumption) rfl (by kernel_rfl) (by kernel_rfl) (by kernel_rfl) (fun _ _ _ h => h) (by kernel_rfl) (v := ?v15) ?y15 ?r15
    case y15 => (intro u hu; have zz0 := k3 u hu; go_simp; try rfl)
    simp only [Act.put, List.setIfInBounds_toArray, List.set_cons_zero, List.set_cons_succ]
    refine take_held 17 (by assumption) rfl (by kernel_rfl) (by kernel_rfl) (by kernel_rfl) (fun _ _ _ h => h) (by kernel_rfl) (v := ?v16) ?y16 ?r16
    case y16 => (intro u hu; go_simp; try rfl)
    simp only [Act.put, List.setIfInBounds_toArray, List.set_cons_zero, List.set_cons_succ]
    refine take_held 18 (by assumption) rfl (by kernel_rfl) (by kernel_rfl) (by kernel_rfl) (fun _ _ _ h => h) (by kernel_rfl) (v := ?v17) ?y17 ?r17
    case y17 => (intro u hu; have zz0 := k4 u hu; go_simp; try rfl)
    simp only [Act.put, List.setIfInBounds_toArray, List.set_cons_zero, List.set_cons_succ]
    refine wpAnyH_ready (rs := [9]) (by kernel_rfl) (by simp) (AllReadyH.cons ((nth_eq _ 9).trans rfl) ?_ AllReadyH.nil)
    intro K' hK
    refine call_in hK (by kernel_rfl) 28 #[.pointer (some ⟨b, 0, none⟩), .int .i64 R, .int .i64 cl, .int .i64 ti, .int .i64 by_] (by go_simp) _ (extC BD.out.tf HL.out HS.out (by omega)) ?_
    rintro v we ⟨xf, rfl, lf, Ff, Tfe, tfe, Ef⟩
    have Be := BD.out.one Tfe tfe
    have Se : SH we := by rw [hSH]; exact Be.box
    refine ⟨Se, ?_⟩
    simp only [Act.put, List.setIfInBounds_toArray, List.set_cons_zero, List.set_cons_succ]
    refine wpAnyH_ready (rs := [19]) (by kernel_rfl) (by simp) (AllReadyH.cons ((nth_eq _ 19).trans rfl) ?_ AllReadyH.nil)
    intro K' hK
    refine call_in hK (by kernel_rfl) 30 #[.pointer (some ⟨c, 0, none⟩), .int .i64 R, .int .i64 cl, .int .i64 ti, .int .i64 by_] (by go_simp) _ (rextC Be.tg HL.out HS.out (by omega)) ?_
    rintro v wef ⟨xg, rfl, lg, Gg, Tgef, tgef, Eg⟩
    have Bef := Be.two Tgef tgef
    have Sef : SH wef := by rw [hSH]; exact Bef.box
    refine ⟨Sef, ?_⟩
    simp only [Act.put, List.setIfInBounds_toArray, List.set_cons_zero, List.set_cons_succ]
    refine take_held 20 (by assumption) rfl (by kernel_rfl) (by kernel_rfl) (by kernel_rfl) (fun _ _ _ h => h) (by kernel_rfl) (v := ?v18) ?y18 ?r18
    case y18 => (intro u hu; go_simp; try rfl)
    simp only [Act.put, List.setIfInBounds_toArray, List.set_cons_zero, List.set_cons_succ]
    refine take_held 21 (by assumption) rfl (by kernel_rfl) (by kernel_rfl) (by kernel_rfl) (fun _ _ _ h => h) (by kernel_rfl) (v := ?v19) ?y19 ?r19
    case y19 => (intro u hu; go_simp; try rfl)
    simp only [Act.put, List.setIfInBounds_toArray, List.set_cons_zero, List.set_cons_succ]
    refine done_held (by kernel_rfl) ?_ _
    have HBz : Hid _ := Bef
    have HEf : Hid _ := Ef
    have HEg : Hid _ := Eg
    go_wp2
    go_ret
    exact HBz.out.fin (HEf.out.unique HEg.out).2 (HEf.out.ok HL.out) (fun l hl => by have := HEf.out.small HS.out l hl; omega) HEf.out.len (by simp [(HEf.out.unique HEg.out).1])
  by_cases e5 : pk = 5
  · subst e5
    go_enter Try.func16, Try.ntmps16
    go_wp2_with (first
      | (go_at_call 21; (try rw [HW1.out]); refine (cM _).mono ?_; rintro _ w3 ⟨rfl, rfl⟩)
      | (go_at_call 26; refine (release_any F b ls R ti m w3 HB1.out.tf HS.out (by omega) hn0 hn1).mono ?_; rintro _ w4 ⟨rfl, F4, T4, t4⟩; have B4 := HB1.out.one T4 t4; have y1 := (cell_same (o := 1) B4.box).trans x1; have y3 := (cell_same (o := 3) B4.box).trans x3; have HB4 : Hid _ := B4; clear B4 T4 t4)
      | (go_at_call 31; refine (rrelease_any G c ls R ti m w4 HB4.out.tg HL.out HS.out (by omega) hn0 hn1).mono ?_; rintro _ w5 ⟨rfl, G5, T5, t5⟩))
    go_ret
    exact (HB4.out.two T5 t5).fin rfl (cut_okT HL.out) (cut_small HS60.out) (List.length_map _) rfl
  by_cases e6 : pk = 6
  · subst e6
    go_enter Try.func16, Try.ntmps16
    go_wp2_with (first
      | (go_at_call 21; (try rw [HW1.out]); refine (cM _).mono ?_; rintro _ w3 ⟨rfl, rfl⟩)
      | (go_at_call 25; refine (expire_any F b ls ti m w3 HB1.out.tf HS.out (by omega) hn0 hn1).mono ?_; rintro _ w4 ⟨rfl, F4, T4, t4⟩; have B4 := HB1.out.one T4 t4; have y3 := (cell_same (o := 3) B4.box).trans x3; have HB4 : Hid _ := B4; clear B4 T4 t4)
      | (go_at_call 32; refine (rexpire_any G c ls ti m w4 HB4.out.tg HS.out (by omega) hn0 hn1).mono ?_; rintro _ w5 ⟨rfl, G5, T5, t5⟩))
    go_ret
    exact (HB4.out.two T5 t5).fin rfl (cut_okT HL.out) (cut_small HS60.out) (List.length_map _) rfl
  by_cases e7 : pk = 7
  · subst e7
    go_enter Try.func16, Try.ntmps16
    go_wp2_with (first
      | (go_at_call 21; (try rw [HW1.out]); refine (cM _).mono ?_; rintro _ w3 ⟨rfl, rfl⟩)
      | (go_at_call 27; refine (clear_any F b ls R m w3 HB1.out.tf HS.out (by omega) hn0 hn1).mono ?_; rintro _ w4 ⟨rfl, F4, T4, t4⟩; have B4 := HB1.out.one T4 t4; have y1 := (cell_same (o := 1) B4.box).trans x1; have HB4 : Hid _ := B4; clear B4 T4 t4)
      | (go_at_call 33; refine (rclear_any G c ls R m w4 HB4.out.tg HL.out HS.out (by omega) hn0 hn1).mono ?_; rintro _ w5 ⟨rfl, G5, T5, t5⟩))
    go_ret
    exact (HB4.out.two T5 t5).fin rfl (cut_okT HL.out) (cut_small HS60.out) (List.length_map _) rfl
  have d4 : (pk == 4) = false := by simp [e4]
  have d5 : (pk == 5) = false := by simp [e5]
  have d6 : (pk == 6) = false := by simp [e6]
  have d7 : (pk == 7) = false := by simp [e7]
  clear e4 e5 e6 e7
  go_enter Try.func16, Try.ntmps16
  go_wp2_with (go_at_call 21; (try rw [HW1.out]); refine (cM _).mono ?_; rintro _ w3 ⟨rfl, rfl⟩)
  refine start_held (S := SH) 16 rfl (by kernel_rfl) (hS) ?_
  simp only [Array.replicate_succ, Array.replicate_zero, List.push_toArray, List.nil_append, List.cons_append]
  refine take_held 0 (by assumption) rfl (by kernel_rfl) (by kernel_rfl) (by kernel_rfl) (fun _ _ _ h => h) (by kernel_rfl) (v := ?v20) ?y20 ?r20
  case y20 => (intro u hu; go_simp; try rfl)
  simp only [Act.put, List.setIfInBounds_toArray, List.set_cons_zero, List.set_cons_succ]
  refine take_held 1 (by assumption) rfl (by kernel_rfl) (by kernel_rfl) (by kernel_rfl) (fun _ _ _ h => h) (by kernel_rfl) (v := ?v21) ?y21 ?r21
  case y21 => (intro u hu; go_simp; try rfl)
  simp only [Act.put, List.setIfInBounds_toArray, List.set_cons_zero, List.set_cons_succ]
  refine take_held 2 (by assumption) rfl (by kernel_rfl) (by kernel_rfl) (by kernel_rfl) (fun _ _ _ h => h) (by kernel_rfl) (v := ?v22) ?y22 ?r22
  case y22 => (intro u hu; have zz0 := k1 u hu; go_simp; try rfl)
  simp only [Act.put, List.setIfInBounds_toArray, List.set_cons_zero, List.set_cons_succ]
  refine take_held 3 (by assumption) rfl (by kernel_rfl) (by kernel_rfl) (by kernel_rfl) (fun _ _ _ h => h) (by kernel_rfl) (v := ?v23) ?y23 ?r23
  case y23 => (intro u hu; go_simp; try rfl)
  simp only [Act.put, List.setIfInBounds_toArray, List.set_cons_zero, List.set_cons_succ]
  refine take_held 4 (by assumption) rfl (by kernel_rfl) (by kernel_rfl) (by kernel_rfl) (fun _ _ _ h => h) (by kernel_rfl) (v := ?v24) ?y24 ?r24
  case y24 => (intro u hu; have zz0 := k5 u hu; go_simp; try rfl)
  simp only [Act.put, List.setIfInBounds_toArray, List.set_cons_zero, List.set_cons_succ]
  refine take_held 7 (by assumption) rfl (by kernel_rfl) (by kernel_rfl) (by kernel_rfl) (fun _ _ _ h => h) (by kernel_rfl) (v := ?v25) ?y25 ?r25
  case y25 => (intro u hu; go_simp; try rfl)
  simp only [Act.put, List.setIfInBounds_toArray, List.set_cons_zero, List.set_cons_succ]
  refine take_held 8 (by assumption) rfl (by kernel_rfl) (by kernel_rfl) (by kernel_rfl) (fun _ _ _ h => h) (by kernel_rfl) (v := ?v26) ?y26 ?r26
  case y26 => (intro u hu; go_simp; try rfl)
  simp only [Act.put, List.setIfInBounds_toArray, List.set_cons_zero, List.set_cons_succ]
  refine take_held 9 (by assumption) rfl (by kernel_rfl) (by kernel_rfl) (by kernel_rfl) (fun _ _ _ h => h) (by kernel_rfl) (v := ?v27) ?y27 ?r27
  case y27 => (intro u hu; have zz0 := k1 u hu; go_simp; try rfl)
  simp only [Act.put, List.setIfInBounds_toArray, List.set_cons_zero, List.set_cons_succ]
  refine take_held 10 (by assumption) rfl (by kernel_rfl) (by kernel_rfl) (by kernel_rfl) (fun _ _ _ h => h) (by kernel_rfl) (v := ?v28) ?y28 ?r28
  case y28 => (intro u hu; go_simp; try rfl)
  simp only [Act.put, List.setIfInBounds_toArray, List.set_cons_zero, List.set_cons_succ]
  refine take_held 11 (by assumption) rfl (by kernel_rfl) (by kernel_rfl) (by kernel_rfl) (fun _ _ _ h => h) (by kernel_rfl) (v := ?v29) ?y29 ?r29
  case y29 => (intro u hu; have zz0 := k5 u hu; go_simp; try rfl)
  simp only [Act.put, List.setIfInBounds_toArray, List.set_cons_zero, List.set_cons_succ]
  refine wpAnyH_ready (rs := [5]) (by kernel_rfl) (by simp) (AllReadyH.cons ((nth_eq _ 5).trans rfl) ?_ AllReadyH.nil)
  intro K' hK
  obtain ⟨va, vn, vc, wa, runa, RAa, ba⟩ := appC (HIN.out.go BD.out.bw) hn60 BD.out.sz
  have Ba := BD.out.below ba
  have Sa : SH wa := by rw [hSH]; exact Ba.box
  refine value_in hK (by kernel_rfl) (.slice va vn vc) (wa) (run_app_op _ _ rfl _ _ _ rfl rfl runa) (Sa) ?_
  simp only [Act.put, List.setIfInBounds_toArray, List.set_cons_zero, List.set_cons_succ]
  refine wpAnyH_ready (rs := [6]) (by kernel_rfl) (by simp) (AllReadyH.cons ((nth_eq _ 6).trans rfl) ?_ AllReadyH.nil)
  intro K' hK
  refine call_in hK (by kernel_rfl) 19 #[.pointer (some ⟨b, 0, none⟩), .int .i64 R, .slice va vn vc] (by go_simp) _ (claimC Ba.tf HL.out HS.out hn0 hn1 RAa (by have := hwl.out; omega)) ?_
  rintro v wab ⟨xf, rfl, lf, Ff, Tfab, tfab, Ef⟩
  have Bab := Ba.one Tfab tfab
  have Sab : SH wab := by rw [hSH]; exact Bab.box
  refine ⟨Sab, ?_⟩
  simp only [Act.put, List.setIfInBounds_toArray, List.set_cons_zero, List.set_cons_succ]
  refine wpAnyH_ready (rs := [12]) (by kernel_rfl) (by simp) (AllReadyH.cons ((nth_eq _ 12).trans rfl) ?_ AllReadyH.nil)
  intro K' hK
  refine call_in hK (by kernel_rfl) 35 #[.slice a n cap] (by go_simp) _ (wantsC (HIN.out.go Bab.bw) hn60 Bab.sz) ?_
  rintro v wabc ⟨ua, uc, rfl, RCabc, babc⟩
  have Babc := Bab.below babc
  have Sabc : SH wabc := by rw [hSH]; exact Babc.box
  refine ⟨Sabc, ?_⟩
  simp only [Act.put, List.setIfInBounds_toArray, List.set_cons_zero, List.set_cons_succ]
  refine wpAnyH_ready (rs := [13]) (by kernel_rfl) (by simp) (AllReadyH.cons ((nth_eq _ 13).trans rfl) ?_ AllReadyH.nil)
  intro K' hK
  refine call_in hK (by kernel_rfl) 34 #[.pointer (some ⟨c, 0, none⟩), .int .i64 R, .slice ua n uc] (by go_simp) _ (rclaimC Babc.tg HL.out HS.out hn0 RCabc (fun k hk e => by have := HG1.out k e; omega) (by have := hwl.out; omega)) ?_
  rintro v wabcd ⟨xg, rfl, lg, Gg, Tgabcd, tgabcd, Eg⟩
  have Babcd := Babc.two Tgabcd tgabcd
  have Sabcd : SH wabcd := by rw [hSH]; exact Babcd.box
  refine ⟨Sabcd, ?_⟩
  simp only [Act.put, List.setIfInBounds_toArray, List.set_cons_zero, List.set_cons_succ]
  refine take_held 14 (by assumption) rfl (by kernel_rfl) (by kernel_rfl) (by kernel_rfl) (fun _ _ _ h => h) (by kernel_rfl) (v := ?v30) ?y30 ?r30
  case y30 => (intro u hu; go_simp; try rfl)
  simp only [Act.put, List.setIfInBounds_toArray, List.set_cons_zero, List.set_cons_succ]
  refine take_held 15 (by assumption) rfl (by kernel_rfl) (by kernel_rfl) (by kernel_rfl) (fun _ _ _ h => h) (by kernel_rfl) (v := ?v31) ?y31 ?r31
  case y31 => (intro u hu; go_simp; try rfl)
  simp only [Act.put, List.setIfInBounds_toArray, List.set_cons_zero, List.set_cons_succ]
  refine done_held (by kernel_rfl) ?_ _
  have HBz : Hid _ := Babcd
  have HEf : Hid _ := Ef
  have HEg : Hid _ := Eg
  go_wp2
  go_ret
  exact HBz.out.fin (HEf.out.unique HEg.out).2 (HEf.out.ok HL.out) (fun l hl => by have := HEf.out.small HS.out l hl; have := hwl.out; omega) HEf.out.len (by simp [(HEf.out.unique HEg.out).1])
end Go.Proofs.Ytddkgkafgjdheaa.Rs
