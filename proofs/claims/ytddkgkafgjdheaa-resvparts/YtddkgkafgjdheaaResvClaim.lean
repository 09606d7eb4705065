/-
  Claim.
-/
import Derived.Test.YtddkgkafgjdheaaResvMore
namespace Go.Proofs.Ytddkgkafgjdheaa.Rs
set_option linter.unusedVariables false
set_option linter.unusedSimpArgs false
open Go Go.RowKit Go.Shelf Go.Proofs Hp
attribute [local go_sem] Oper.semAt_some

theorem run_app_op {o : Oper} {a : Act} {w w' : World} {tt : TypeId} (s x : Operand) (ho : o.op = .call { callee := .builtin .append, args := #[s, x], argTypes := #[tt, tt] }) (v v2 v' : Value) (hs : a.eval s = v) (hx : a.eval x = v2)
    (h : (Builtin.append_ #[tt, tt] o.type #[v, v2]).run Try.prog w = .ok v' w') : (execOp a.eval o).run Try.prog w = .ok (.value v') w' := by
  unfold execOp
  simp only [ho, resolve, invoke, builtin, Sem.run_bind, Sem.run_pure, Result.andThen_ok, List.map_toArray, List.map_cons, List.map_nil, hs, hx, h]
/- All cells' slots are as they must be. -/
def OkT (ls : List (List Sl)) : Prop := ∀ l ∈ ls, Ok l
def Small (m : Nat) (ls : List (List Sl)) : Prop := ∀ l ∈ ls, l.length ≤ m
def badArg (R : Int) (ws : List Wn) (n : Nat) : Bool := decide (R < 0) || ws.any (badW n)
/- Another robot has a tick of what is wanted. -/
def MetT (R : Int) (ws : List Wn) (ls : List (List Sl)) : Prop := ∃ i, ∃ h : i < ls.length, Met ls[i] R (moreOf R ws (i : Nat))
structure ClaimR (R : Int) (ws : List Wn) (ls : List (List Sl)) (e : Int) (ls' : List (List Sl)) : Prop where
  arg : badArg R ws ls.length = true → e = 1 ∧ ls' = ls
  taken : badArg R ws ls.length = false → MetT R ws ls → e = 18 ∧ ls' = ls
  done : badArg R ws ls.length = false → ¬ MetT R ws ls → e = 0 ∧ ls'.length = ls.length ∧ ∀ i (h : i < ls.length) (h' : i < ls'.length), With ls[i] (moreOf R ws (i : Nat)) ls'[i]
theorem ClaimR.ok {R : Int} {ws : List Wn} {ls ls' : List (List Sl)} {e : Int} (h : ClaimR R ws ls e ls') (hl : OkT ls) : OkT ls' := by
  cases hb : badArg R ws ls.length with
  | true => rw [(h.arg hb).2]; exact hl
  | false =>
    by_cases hm : MetT R ws ls
    · rw [(h.taken hb hm).2]; exact hl
    · obtain ⟨_, h2, h3⟩ := h.done hb hm
      intro l hl'
      obtain ⟨i, hi, rfl⟩ := List.mem_iff_getElem.1 hl'
      exact (h3 i (by omega) hi).ok
theorem ClaimR.len {R : Int} {ws : List Wn} {ls ls' : List (List Sl)} {e : Int} (h : ClaimR R ws ls e ls') : ls'.length = ls.length := by
  cases hb : badArg R ws ls.length with
  | true => rw [(h.arg hb).2]
  | false =>
    by_cases hm : MetT R ws ls
    · rw [(h.taken hb hm).2]
    · exact (h.done hb hm).2.1
theorem ClaimR.small {R : Int} {ws : List Wn} {ls ls' : List (List Sl)} {e : Int} {m : Nat} (h : ClaimR R ws ls e ls') (hs : Small m ls) : Small (m + ws.length) ls' := by
  have hle : Small (m + ws.length) ls := fun l hl => by have := hs l hl; omega
  cases hb : badArg R ws ls.length with
  | true => rw [(h.arg hb).2]; exact hle
  | false =>
    by_cases hm : MetT R ws ls
    · rw [(h.taken hb hm).2]; exact hle
    · obtain ⟨_, h2, h3⟩ := h.done hb hm
      intro l hl'
      obtain ⟨i, hi, rfl⟩ := List.mem_iff_getElem.1 hl'
      have := (h3 i (by omega) hi).len
      have := hs _ (List.getElem_mem (show i < ls.length by omega))
      have := moreOf_len R ws (i : Nat)
      omega
theorem ClaimR.unique {R : Int} {ws : List Wn} {ls l1 l2 : List (List Sl)} {e1 e2 : Int} (h : ClaimR R ws ls e1 l1) (k : ClaimR R ws ls e2 l2) : e1 = e2 ∧ l1 = l2 := by
  cases hb : badArg R ws ls.length with
  | true => obtain ⟨a, b⟩ := h.arg hb; obtain ⟨c, d⟩ := k.arg hb; exact ⟨by omega, by rw [b, d]⟩
  | false =>
    by_cases hm : MetT R ws ls
    · obtain ⟨a, b⟩ := h.taken hb hm; obtain ⟨c, d⟩ := k.taken hb hm; exact ⟨by omega, by rw [b, d]⟩
    · obtain ⟨a, b, c⟩ := h.done hb hm
      obtain ⟨a', b', c'⟩ := k.done hb hm
      refine ⟨by omega, List.ext_getElem (by omega) fun i h1 h2 => ?_⟩
      exact (c i (by omega) h1).unique (c' i (by omega) h2)
def ClaimPost (F : Nat → Prop) (b : Nat) (R : Int) (ws : List Wn) (ls : List (List Sl)) (w : World) (e : Ending) (w' : World) : Prop := ∃ (x : Int) (ls' : List (List Sl)) (F' : Nat → Prop), e = .returned (.int .i64 x) ∧ TAt F' w' b ls' ∧ Tn F F' w w' ∧ ClaimR R ws ls x ls'
/- While the cells are gone through: those ahead of i are done. -/
theorem MoreIn.beside {B : Nat} {w : World} {gm n : Nat} {vals : List Value} {ms : List (List Sl)} (h : MoreIn B w gm n vals ms) (ga i : Nat) (v : Value) (hg : gm ≠ ga) (hv : ∀ j (hj : j < vals.length) k, (vals[j]).ownBlock = some k → k ≠ ga) : MoreIn B (w.setCell ⟨ga, i, none⟩ v) gm n vals ms :=
  ⟨owns_same h.row fun k hk => by cases hk; exact Below.heap_setCell _ _ _ _ hg, h.len, h.lm, fun j h1 h2 => owns_same (h.each j h1 h2) fun k hk => Below.heap_setCell _ _ _ _ (hv j h1 k hk), h.off, h.apart⟩
structure Half (F : Nat → Prop) (b N : Nat) (w : World) (ga cap : Nat) (vals : List Value) (ls : List (List Sl)) (R : Int) (ws : List Wn) (i : Nat) (ls' : List (List Sl)) : Prop where
  row : w.ownsRow N 37 1 (.slice (some ⟨ga, 0, none⟩) ls.length cap) ls.length vals
  len : vals.length = ls.length
  len' : ls'.length = ls.length
  past : ∀ j (h : j < ls.length) (h' : j < ls'.length), j < i → With ls[j] (moreOf R ws (j : Nat)) ls'[j]
  rest : ∀ j (h : j < ls.length) (h' : j < ls'.length), i ≤ j → ls'[j] = ls[j]
  each : ∀ j (h : j < vals.length) (h' : j < ls'.length), RowAt slL (fun k => (F k ∧ k ≠ b) ∨ (N ≤ k ∧ k ≠ ga)) w vals[j] ls'[j]
theorem Half.go {F : Nat → Prop} {b N : Nat} {w w' : World} {ga cap : Nat} {vals : List Value} {ls : List (List Sl)} {R : Int} {ws : List Wn} {i : Nat} {ls' : List (List Sl)} (h : Half F b N w ga cap vals ls R ws i ls') (hb : Below w.heap.size w w') : Half F b N w' ga cap vals ls R ws i ls' :=
  ⟨owns_go h.row hb, h.len, h.len', h.past, h.rest, fun j h1 h2 => (h.each j h1 h2).go slL_len hb⟩
theorem Half.cell {F : Nat → Prop} {b N : Nat} {w : World} {ga cap : Nat} {vals : List Value} {ls : List (List Sl)} {R : Int} {ws : List Wn} {i : Nat} {ls' : List (List Sl)} (h : Half F b N w ga cap vals ls R ws i ls') (j : Nat) (hj : j < vals.length) : w.cell? ⟨ga, j, none⟩ = some vals[j] := by
  rw [h.row.cellAt _ (by have := h.len; omega), List.getElem?_eq_getElem hj]
theorem Half.step {F : Nat → Prop} {b N : Nat} {w : World} {ga cap : Nat} {vals : List Value} {ls : List (List Sl)} {R : Int} {ws : List Wn} {i : Nat} {ls' : List (List Sl)} (h : Half F b N w ga cap vals ls R ws i ls') (hF : ∀ k, F k → k < N) (hi : i < ls.length) (rv : Value) (l' : List Sl) (hw : With ls[i] (moreOf R ws (i : Nat)) l') (hr : RowAt slL (fun k => (F k ∧ k ≠ b) ∨ (N ≤ k ∧ k ≠ ga)) w rv l') :
    Half F b N (w.setCell ⟨ga, i, none⟩ rv) ga cap (vals.set i rv) ls R ws (i + 1) (ls'.set i l') := by
  have hga : N ≤ ga := (own_since h.row ga rfl).1
  have hst : ∀ k, ((F k ∧ k ≠ b) ∨ (N ≤ k ∧ k ≠ ga)) → (w.setCell ⟨ga, i, none⟩ rv).heap[k]? = w.heap[k]? := fun k hk => Below.heap_setCell _ _ _ k (by
    rcases hk with q | q
    · exact Nat.ne_of_lt (Nat.lt_of_lt_of_le (hF k q.1) hga)
    · exact q.2)
  have hrow := (h.row.stored i rv).1
  refine ⟨by simpa using hrow, by rw [List.length_set]; exact h.len, by rw [List.length_set]; exact h.len', fun j h1 h2 hj => ?_, fun j h1 h2 hj => ?_, fun j h1 h2 => ?_⟩
  · rw [List.length_set] at h2
    by_cases e : i = j
    · subst e; simp only [List.getElem_set_self]; exact hw
    · rw [List.getElem_set_ne e]; exact h.past j h1 h2 (by omega)
  · rw [List.length_set] at h2
    rw [List.getElem_set_ne (by omega)]; exact h.rest j h1 h2 (by omega)
  · rw [List.length_set] at h1 h2
    by_cases e : i = j
    · subst e; simp only [List.getElem_set_self]; exact hr.same hst
    · rw [List.getElem_set_ne e, List.getElem_set_ne e]; exact (h.each j h1 h2).same hst
theorem Half.start {F : Nat → Prop} {b N : Nat} {w w' : World} {v : Value} {vals0 : List Value} {ls : List (List Sl)} {ga cap : Nat} (h : TIn F w b v vals0 ls) (row : w'.ownsRow N 37 1 (.slice (some ⟨ga, 0, none⟩) ls.length cap) ls.length vals0) (hb : Below w.heap.size w w') (R : Int) (ws : List Wn) : Half F b N w' ga cap vals0 ls R ws 0 ls :=
  ⟨row, h.len, rfl, fun j _ _ hj => absurd hj (Nat.not_lt_zero _), fun _ _ _ _ => rfl, fun j h1 h2 => ((h.each j h2 h1).go slL_len hb).mono fun k hk => Or.inl ⟨hk.1, hk.2.1⟩⟩
theorem Half.finish {F : Nat → Prop} {b : Nat} {w0 w : World} {ga cap : Nat} {vals : List Value} {ls : List (List Sl)} {R : Int} {ws : List Wn} {ls' : List (List Sl)} (h : Half F b w0.heap.size w ga cap vals ls R ws ls.length ls') (ht : TAt F w0 b ls) (hb : Below w0.heap.size w0 w) :
    TAt (fun k => F k ∨ (w0.heap.size ≤ k ∧ k < w.heap.size)) (w.setCell ⟨b, 0, none⟩ (.slice (some ⟨ga, 0, none⟩) ls.length cap)) b ls' ∧ Tn F (fun k => F k ∨ (w0.heap.size ≤ k ∧ k < w.heap.size)) w0 (w.setCell ⟨b, 0, none⟩ (.slice (some ⟨ga, 0, none⟩) ls.length cap)) := by
  obtain ⟨v, vals0, t⟩ := ht
  have hF := t.low
  have hbl := hF b t.hb
  have hga := own_since h.row ga rfl
  have hne : ga ≠ b := by omega
  have hst : ∀ k, k ≠ b → (w.setCell ⟨b, 0, none⟩ (.slice (some ⟨ga, 0, none⟩) ls.length cap)).heap[k]? = w.heap[k]? := fun k hk => Below.heap_setCell _ _ _ k hk
  have hsz : (w.setCell ⟨b, 0, none⟩ (.slice (some ⟨ga, 0, none⟩) ls.length cap)).heap.size = w.heap.size := by simp [World.setCell]
  refine ⟨⟨.slice (some ⟨ga, 0, none⟩) ls.length cap, vals, ?_, ?_, ?_, ?_, ?_, ?_, ?_, ?_⟩, ?_⟩
  · exact World.cell?_setCell_same _ _ _ ((cell_same (hb.block b hbl)).trans t.head)
  · intro o; rw [World.frozen?_setCell]; exact (frozen_same (hb.block b hbl)).trans (t.frz o)
  · rw [h.len']
    exact owns_same (owns_base (Nat.zero_le _) h.row) fun k hk => by cases hk; exact hst ga hne
  · rw [h.len, h.len']
  · exact Or.inl t.hb
  · intro k hk
    cases hk
    exact ⟨Or.inr hga, hne⟩
  · intro k hk
    rw [hsz]
    rcases hk with q | q
    · exact Nat.lt_of_lt_of_le (hF k q) hb.size
    · exact q.2
  · intro i h1 h2
    have q := (h.each i h2 h1).old slL_len
    refine (q.mono (G := fun k => (F k ∨ (w0.heap.size ≤ k ∧ k < w.heap.size)) ∧ k ≠ b ∧ (Value.slice (some ⟨ga, 0, none⟩) ls.length cap).ownBlock ≠ some k) fun k hk => ?_).same fun k hk => hst k hk.2.1
    obtain ⟨hk1, hk2⟩ := hk
    rcases hk1 with q | q
    · exact ⟨Or.inl q.1, q.2, fun e => by cases e; have := hF ga q.1; omega⟩
    · exact ⟨Or.inr ⟨q.1, hk2⟩, by omega, fun e => by cases e; exact q.2 rfl⟩
  · exact ⟨hb.os, hb.tape, hb.output, by rw [hsz]; exact hb.size, fun k hk hn => (hst k (fun e => hn (by rw [e]; exact t.hb))).trans (hb.block k hk), fun k hk => by
      rcases hk with q | q
      · exact Or.inl q
      · exact Or.inr q.1⟩
theorem Half.no_met {F : Nat → Prop} {b N : Nat} {w : World} {ga cap : Nat} {vals : List Value} {ls : List (List Sl)} {R : Int} {ws : List Wn} {ls' : List (List Sl)} (h : Half F b N w ga cap vals ls R ws ls.length ls') (hl : OkT ls) (hf : ∀ c, ∀ s ∈ moreOf R ws c, Fit s) : ¬ MetT R ws ls := fun ⟨i, hi, hm⟩ =>
  (h.past i hi (by rw [h.len']; exact hi) hi).no_met (fun s hs => ((hl _ (List.getElem_mem hi)).fit s hs).2.1) (fun s hs => (hf _ s hs).2.1) moreOf_r hm
theorem with_call {F : Nat → Prop} {lv mv : Value} {l more : List Sl} {w : World} (h : Calls Try.prog 45 #[lv, mv] w (WithPost F l more w)) : Calls Try.prog 45 #[lv, mv] w fun e w' => ∃ v, e = .returned v ∧ ∃ a n c ok, v = .tuple #[.slice a n c, .bool ok] ∧ Below w.heap.size w w' ∧ WithR F w.heap.size l more (.slice a n c) ok w' :=
  h.mono fun e w' ⟨rv, ok, he, hb, ⟨a, n, c, hrv⟩, hr⟩ => by subst hrv; exact ⟨_, he, a, n, c, ok, rfl, hb, hr⟩
set_option maxRecDepth 100000 in
set_option maxHeartbeats 4000000 in
theorem claim_any (F G : Nat → Prop) (b : Nat) (ls : List (List Sl)) (R : Int) (lv : Value) (ws : List Wn) (m : Nat) (w : World) (h : TAt F w b ls) (hl : OkT ls) (hs : Small m ls) (hn : 0 < ls.length) (hn2 : ls.length ≤ 1000000) (RW : RowAt wnL G w lv ws) (hb : m + ws.length ≤ 1000000000) :
    Calls Try.prog 19 #[.pointer (some ⟨b, 0, none⟩), .int .i64 R, lv] w (ClaimPost F b R ws ls w) := by
  obtain ⟨a, cap, elv, _⟩ := RW.form
  have HT : Hid (TAt F w b ls) := h
  have HR : Hid (RowAt wnL G w lv ws) := RW
  have cC := contains_any F G b ls lv ws w h RW (by omega)
  have hbl := h.at.2
  subst elv
  clear h RW
  by_cases hneg : R < 0
  · go_enter Try.func19, Try.ntmps19
    go_wp2
    go_ret
    have hA : badArg R ws ls.length = true := by simp [badArg, hneg]
    exact ⟨1, ls, F, rfl, HT.out, Tn.below (Below.refl _ _), fun _ => ⟨rfl, rfl⟩, fun q => (by rw [hA] at q; cases q), fun q => (by rw [hA] at q; cases q)⟩
  cases hany : ws.any (badW ls.length) with
  | true =>
    rw [hany] at cC
    have hA : Hid (badArg R ws ls.length = true) := by unfold Hid badArg; rw [hany]; simp
    clear hany
    go_enter Try.func19, Try.ntmps19
    go_wp2_with (go_at_call 42; refine cC.mono ?_; rintro e w1 ⟨rfl, b1⟩)
    go_ret
    exact ⟨1, ls, F, rfl, HT.out.go b1, Tn.below b1, fun _ => ⟨rfl, rfl⟩, fun q => (by rw [hA.out] at q; cases q), fun q => (by rw [hA.out] at q; cases q)⟩
  | false =>
    rw [hany] at cC
    have hA : Hid (badArg R ws ls.length = false) := by unfold Hid badArg; rw [hany]; simp [hneg]
    have HFit : Hid (∀ c, ∀ s ∈ moreOf R ws c, Fit s) := fun c => moreOf_fit (by omega) hany
    have HWs : Hid (∀ x ∈ ws, isThere ls.length x.c = true) := fun x hx => by
      have := List.any_eq_false.1 hany x hx
      simp [badW] at this
      simp only [isThere, Bool.and_eq_true, decide_eq_true_eq] at this ⊢
      exact this.1.1.1
    clear hany
    go_enter Try.func19, Try.ntmps19
    go_wp2_with (first
      | (go_at_call 42; refine cC.mono ?_; rintro e w1 ⟨rfl, b1⟩)
      | (go_at_call 14; refine (cells_any F b ls _ (HT.out.go b1)).mono ?_; rintro e w2 ⟨rfl, rfl⟩)
      | (refine wpList_made rfl _ _ rfl ls.length rfl rfl hn2 ?_))
    obtain ⟨gm, hgm⟩ : ∃ gm, w2.heap.size = gm := ⟨_, rfl⟩
    have M0 := MoreIn.start w2 ls.length hn2 w.heap.size b1.size
    have b3 : Below w.heap.size w (w2.alloc (.cells (bareRow ls.length) 37)) := bcat b1 ((Below.refl _ _).alloc (Nat.le_refl _) _)
    generalize w2.alloc (.cells (bareRow ls.length) 37) = W3 at *
    rw [hgm] at M0 ⊢
    rw [← msOf_nil R] at M0
    have HM0 : Hid (MoreIn w.heap.size W3 gm ls.length (List.replicate ls.length (.slice none 0 0)) (msOf R [] ls.length)) := M0
    have HB3 : Hid (Below w.heap.size w W3) := b3
    clear M0 b3 b1 hgm cC
    go_loopw [26] (fun s26 wr => ∃ (i : Nat) (vals : List Value), s26 = .int .i64 i ∧ i ≤ ws.length ∧ Hid (MoreIn w.heap.size wr gm ls.length vals (msOf R (ws.take i) ls.length)) ∧ Hid (Below w.heap.size w wr)) (fun s26 _ => ws.length - (intOf s26).toNat)
    case atStart => exact ⟨0, _, rfl, Nat.zero_le _, by rw [List.take_zero]; exact HM0, HB3⟩
    case round =>
      obtain ⟨i, vals, rfl, hi, HM, bw⟩ := hrel
      rcases Nat.lt_or_ge i ws.length with hlt | hge
      · obtain ⟨g, o, cap2, e2, _, _, _, C⟩ := (HR.out.go wnL_len bw.out).has (by omega)
        cases e2
        have c0 := C.at wnL_len i hlt 0 _ rfl
        have c1 := C.at wnL_len i hlt 1 _ rfl
        have c2 := C.at wnL_len i hlt 2 _ rfl
        rw [Nat.add_zero] at c0
        have hlt' : (i : Int) < (ws.length : Int) := by omega
        have hsm : (i : Int) + 1 ≤ 1000000000 := by omega
        have hT : ws.take (i + 1) = ws.take i ++ [ws[i]] := List.take_succ_eq_append_getElem hlt
        have hIn := HWs.out ws[i] (List.getElem_mem _)
        obtain ⟨x, hx⟩ : ∃ x, ws[i] = x := ⟨_, rfl⟩
        rw [hx] at c0 c1 c2 hT hIn
        simp only [isThere, Bool.and_eq_true, decide_eq_true_eq] at hIn
        obtain ⟨c, hc⟩ : ∃ c : Nat, x.c = (c : Nat) := ⟨x.c.toNat, by omega⟩
        have hcn : c < ls.length := by omega
        have HT2 : Hid (msOf R (ws.take (i + 1)) ls.length = (msOf R (ws.take i) ls.length).set c (moreOf R (ws.take i) (c : Nat) ++ [⟨x.f, x.t, R⟩])) := by unfold Hid; rw [hT]; exact msOf_snoc R _ _ x c hc hcn
        rw [hc] at c0
        clear hx C hT hIn
        have hcv : c < vals.length := by rw [HM.out.len]; exact hcn
        have hcm : c < (msOf R (ws.take i) ls.length).length := by rw [msOf_len]; exact hcn
        have hml : Hid (((msOf R (ws.take i) ls.length)[c]'hcm).length ≤ 1000000000) := by unfold Hid; rw [msOf_at]; have := moreOf_len R (ws.take i) (c : Nat); rw [List.length_take] at this; omega
        obtain ⟨w9, hw9⟩ : ∃ w9, wr.alloc (.cells #[.int .i64 (c : Nat), .int .i64 x.f, .int .i64 x.t] 46) = w9 := ⟨_, rfl⟩
        have b9 : Below wr.heap.size wr w9 := by rw [← hw9]; exact (Below.refl _ _).alloc (Nat.le_refl _) _
        have q0 : w9.cell? ⟨wr.heap.size, 0, none⟩ = some (.int .i64 (c : Nat)) := by rw [← hw9]; simp
        have q1 : w9.cell? ⟨wr.heap.size, 1, none⟩ = some (.int .i64 x.f) := by rw [← hw9]; simp
        have q2 : w9.cell? ⟨wr.heap.size, 2, none⟩ = some (.int .i64 x.t) := by rw [← hw9]; simp
        have lq : wr.heap.size < w9.heap.size := World.block_lt_of_cell? _ _ q0
        have M9 : Hid (MoreIn w.heap.size w9 gm ls.length vals (msOf R (ws.take i) ls.length)) := HM.out.go b9
        obtain ⟨w44, hw44⟩ : ∃ w44, w9.drew.alloc (.cells #[.int .i64 x.f, .int .i64 x.t, .int .i64 R] 40) = w44 := ⟨_, rfl⟩
        have b44 : Below w9.heap.size w9 w44 := by rw [← hw44]; exact Below.alloc (a := w9) (w := w9.drew) ⟨rfl, rfl, rfl, Nat.le_refl _, fun _ _ => rfl⟩ (Nat.le_refl _) _
        have n44 := cell_new3 w9 (.int .i64 x.f) (.int .i64 x.t) (.int .i64 R) 40
        rw [hw44] at n44
        have M44 : Hid (MoreIn w.heap.size w44 gm ls.length vals (msOf R (ws.take i) ls.length)) := M9.out.go b44
        have hrun := run_app kindSl (M44.out.each c hcv hcm) (lone_at (x := ⟨x.f, x.t, R⟩) n44.1 n44.2.1 n44.2.2) (by have := hml.out; simp; omega) (by have := hml.out; unfold maxLen; simp; omega) (Nat.le_trans bw.out.size (Nat.le_trans b9.size b44.size))
        obtain ⟨v45, w45, hrun45, o45, g45, a45⟩ := hrun 37
        have eg := M44.out.gm_lt
        have e45 : ∀ k, k < w44.heap.size → (vals[c]).ownBlock ≠ some k → w45.heap[k]? = w44.heap[k]? := fun k hk hne => g45.block k hk (fun e => hne e.symm)
        have x37a : w9.drew.cell? ⟨gm, c, none⟩ = some vals[c] := M9.out.cell c hcv
        have x37b : w44.cell? ⟨gm, c, none⟩ = some vals[c] := M44.out.cell c hcv
        have lq44 : wr.heap.size < w44.heap.size := Nat.lt_of_lt_of_le lq b44.size
        have hown9 : (vals[c]).ownBlock ≠ some wr.heap.size := fun e => by have := (own_since (HM.out.each c hcv hcm) _ e).2; omega
        have p45 : w45.heap[wr.heap.size]? = w9.heap[wr.heap.size]? := (e45 _ lq44 hown9).trans (b44.block _ lq)
        have p44 : w44.heap[wr.heap.size]? = w9.heap[wr.heap.size]? := b44.block _ lq
        have x45 : w45.cell? ⟨gm, c, none⟩ = some vals[c] := (cell_same (e45 gm eg.2 (M44.out.off c hcv))).trans x37b
        have f45 : w45.frozen? ⟨gm, c, none⟩ = false := (frozen_same (e45 gm eg.2 (M44.out.off c hcv))).trans (M44.out.row.frozenAt c)
        have hgne : gm ≠ wr.heap.size := by have := HM.out.gm_lt; omega
        have hcn' : (c : Int) < (ls.length : Int) := by omega
        have MP := M44.out.push c hcv hcm ⟨x.f, x.t, R⟩ v45 o45 g45 a45
        rw [msOf_at, ← HT2.out] at MP
        have HMP : Hid _ := MP
        have BP : Hid (Below w.heap.size w (w45.setCell ⟨gm, c, none⟩ v45)) := ((bcat bw.out (bcat b9 b44)).grown g45 (by have := bw.out.size; have := b9.size; have := b44.size; omega) (fun k hk => (own_since (HM.out.each c hcv hcm) k hk).1)).setCell (p := ⟨gm, c, none⟩) HM.out.gm_lt.1 _
        obtain ⟨va, na, vc, eva⟩ : ∃ va na vc, vals[c] = .slice va na vc := by obtain ⟨y1, y2, y3, _⟩ := own_form (HM.out.each c hcv hcm); exact ⟨y1, _, y2, y3⟩
        obtain ⟨va5, na5, vc5, eva5⟩ : ∃ va na vc, v45 = .slice va na vc := by obtain ⟨y1, y2, y3, _⟩ := own_form o45; exact ⟨y1, _, y2, y3⟩
        rw [eva] at x37a x37b x45 hrun45
        subst eva5
        clear MP M44 M9 HT2 e45 g45 a45 o45 hrun
        go_wp2_with fail
        try rw [hw9]
        obtain ⟨SH, hSH⟩ : ∃ S : World → Prop, S = fun u => u.heap[wr.heap.size]? = w9.heap[wr.heap.size]? := ⟨_, rfl⟩
        have hS : SH w9.drew := by rw [hSH]; rfl
        have hS44 : SH w44 := by rw [hSH]; exact p44
        have hS45 : SH w45 := by rw [hSH]; exact p45
        have k0 : ∀ u, SH u → u.cell? ⟨wr.heap.size, 0, none⟩ = some (.int .i64 (c : Nat)) := fun u hu => by rw [hSH] at hu; exact (cell_same hu).trans q0
        have k1 : ∀ u, SH u → u.cell? ⟨wr.heap.size, 1, none⟩ = some (.int .i64 x.f) := fun u hu => by rw [hSH] at hu; exact (cell_same hu).trans q1
        have k2 : ∀ u, SH u → u.cell? ⟨wr.heap.size, 2, none⟩ = some (.int .i64 x.t) := fun u hu => by rw [hSH] at hu; exact (cell_same hu).trans q2
        refine start_held (S := SH) 18 rfl (by kernel_rfl) (hS) ?_
        simp only [Array.replicate_succ, Array.replicate_zero, List.push_toArray, List.nil_append, List.cons_append]
        refine take_held 0 (by assumption) rfl (by kernel_rfl) (by kernel_rfl) (by kernel_rfl) (fun _ _ _ h => h) (by kernel_rfl) (v := ?v0) ?y0 ?r0
        case y0 => (intro u hu; go_simp; try rfl)
        simp only [Act.put, List.setIfInBounds_toArray, List.set_cons_zero, List.set_cons_succ]
        refine take_held 1 (by assumption) rfl (by kernel_rfl) (by kernel_rfl) (by kernel_rfl) (fun _ _ _ h => h) (by kernel_rfl) (v := ?v1) ?y1 ?r1
        case y1 => (intro u hu; go_simp; try rfl)
        simp only [Act.put, List.setIfInBounds_toArray, List.set_cons_zero, List.set_cons_succ]
        refine take_held 2 (by assumption) rfl (by kernel_rfl) (by kernel_rfl) (by kernel_rfl) (fun _ _ _ h => h) (by kernel_rfl) (v := ?v2) ?y2 ?r2
        case y2 => (intro u hu; have zz0 := k0 u hu; go_simp; try rfl)
        simp only [Act.put, List.setIfInBounds_toArray, List.set_cons_zero, List.set_cons_succ]
        refine take_held 3 (by assumption) rfl (by kernel_rfl) (by kernel_rfl) (by kernel_rfl) (fun _ _ _ h => h) (by kernel_rfl) (v := ?v3) ?y3 ?r3
        case y3 => (intro u hu; go_simp; try rfl)
        simp only [Act.put, List.setIfInBounds_toArray, List.set_cons_zero, List.set_cons_succ]
        refine take_held 4 (by assumption) rfl (by kernel_rfl) (by kernel_rfl) (by kernel_rfl) (fun _ _ _ h => h) (by kernel_rfl) (v := ?v4) ?y4 ?r4
        case y4 => (intro u hu; go_simp; try rfl)
        simp only [Act.put, List.setIfInBounds_toArray, List.set_cons_zero, List.set_cons_succ]
        refine take_held 5 (by assumption) rfl (by kernel_rfl) (by kernel_rfl) (by kernel_rfl) (fun _ _ _ h => h) (by kernel_rfl) (v := ?v5) ?y5 ?r5
        case y5 => (intro u hu; have zz0 := k0 u hu; go_simp; try rfl)
        simp only [Act.put, List.setIfInBounds_toArray, List.set_cons_zero, List.set_cons_succ]
        refine take_held 6 (by assumption) rfl (by kernel_rfl) (by kernel_rfl) (by kernel_rfl) (fun _ _ _ h => h) (by kernel_rfl) (v := ?v6) ?y6 ?r6
        case y6 => (intro u hu; go_simp; try rfl)
        simp only [Act.put, List.setIfInBounds_toArray, List.set_cons_zero, List.set_cons_succ]
        refine take_held 8 (by assumption) rfl (by kernel_rfl) (by kernel_rfl) (by kernel_rfl) (fun _ _ _ h => h) (by kernel_rfl) (v := ?v7) ?y7 ?r7
        case y7 => (intro u hu; go_simp; try rfl)
        simp only [Act.put, List.setIfInBounds_toArray, List.set_cons_zero, List.set_cons_succ]
        refine take_held 9 (by assumption) rfl (by kernel_rfl) (by kernel_rfl) (by kernel_rfl) (fun _ _ _ h => h) (by kernel_rfl) (v := ?v8) ?y8 ?r8
        case y8 => (intro u hu; have zz0 := k1 u hu; go_simp; try rfl)
        simp only [Act.put, List.setIfInBounds_toArray, List.set_cons_zero, List.set_cons_succ]
        refine take_held 10 (by assumption) rfl (by kernel_rfl) (by kernel_rfl) (by kernel_rfl) (fun _ _ _ h => h) (by kernel_rfl) (v := ?v9) ?y9 ?r9
        case y9 => (intro u hu; go_simp; try rfl)
        simp only [Act.put, List.setIfInBounds_toArray, List.set_cons_zero, List.set_cons_succ]
        refine take_held 11 (by assumption) rfl (by kernel_rfl) (by kernel_rfl) (by kernel_rfl) (fun _ _ _ h => h) (by kernel_rfl) (v := ?v10) ?y10 ?r10
        case y10 => (intro u hu; have zz0 := k2 u hu; go_simp; try rfl)
        simp only [Act.put, List.setIfInBounds_toArray, List.set_cons_zero, List.set_cons_succ]
        refine take_held 12 (by assumption) rfl (by kernel_rfl) (by kernel_rfl) (by kernel_rfl) (fun _ _ _ h => h) (by kernel_rfl) (v := ?v11) ?y11 ?r11
        case y11 => (intro u hu; go_simp; try rfl)
        simp only [Act.put, List.setIfInBounds_toArray, List.set_cons_zero, List.set_cons_succ]
        refine take_held 13 (by assumption) rfl (by kernel_rfl) (by kernel_rfl) (by kernel_rfl) (fun _ _ _ h => h) (by kernel_rfl) (v := ?v12) ?y12 ?r12
        case y12 => (intro u hu; go_simp; try rfl)
        simp only [Act.put, List.setIfInBounds_toArray, List.set_cons_zero, List.set_cons_succ]
        refine wpAnyH_ready (rs := [7, 14]) (by kernel_rfl) (by simp) (AllReadyH.cons ((nth_eq _ 7).trans rfl) ?_ (AllReadyH.cons ((nth_eq _ 14).trans rfl) ?_ AllReadyH.nil))
        · intro K' hK
          refine value_in hK (by kernel_rfl) (.slice va na vc) (w9.drew) (by have zz := x37a; go_simp; try rfl) (hS) ?_
          simp only [Act.put, List.setIfInBounds_toArray, List.set_cons_zero, List.set_cons_succ]
          refine wpAnyH_ready (rs := [14]) (by kernel_rfl) (by simp) (AllReadyH.cons ((nth_eq _ 14).trans rfl) ?_ AllReadyH.nil)
          intro K' hK
          refine value_in hK (by kernel_rfl) (.slice (some ⟨w9.heap.size, 0, none⟩) 1 1) (w44) (by rw [← hw44]; go_simp; try rfl) (by rw [hSH]; exact p44) ?_
          simp only [Act.put, List.setIfInBounds_toArray, List.set_cons_zero, List.set_cons_succ]
          refine wpAnyH_ready (rs := [15]) (by kernel_rfl) (by simp) (AllReadyH.cons ((nth_eq _ 15).trans rfl) ?_ AllReadyH.nil)
          intro K' hK
          refine value_in hK (by kernel_rfl) (.slice va5 na5 vc5) (w45) (run_app_op _ _ rfl _ _ _ rfl rfl hrun45) (by rw [hSH]; exact p45) ?_
          simp only [Act.put, List.setIfInBounds_toArray, List.set_cons_zero, List.set_cons_succ]
          refine take_held 16 (by assumption) rfl (by kernel_rfl) (by kernel_rfl) (by kernel_rfl) (fun _ _ _ h => h) (by kernel_rfl) (v := ?v13) ?y13 ?r13
          case y13 => (intro u hu; go_simp; try rfl)
          simp only [Act.put, List.setIfInBounds_toArray, List.set_cons_zero, List.set_cons_succ]
          refine wpAnyH_ready (rs := [17]) (by kernel_rfl) (by simp) (AllReadyH.cons ((nth_eq _ 17).trans rfl) ?_ AllReadyH.nil)
          intro K' hK
          refine skip_in hK (by kernel_rfl) (w45.setCell ⟨gm, c, none⟩ (.slice va5 na5 vc5)) (by have zz := x45; have zf := f45; go_simp; try rfl) (by rw [hSH]; exact (Below.heap_setCell _ _ _ _ (fun e => hgne e.symm)).trans p45) ?_
          simp only [Act.put, List.setIfInBounds_toArray, List.set_cons_zero, List.set_cons_succ]
          refine done_held (by kernel_rfl) ?_ _
          go_wp2_with fail
          go_roundw
          case measure => simp only [intOf]; omega
          case rel => exact ⟨i + 1, _, rfl, hlt, HMP, BP⟩
        · intro K' hK
          refine value_in hK (by kernel_rfl) (.slice (some ⟨w9.heap.size, 0, none⟩) 1 1) (w44) (by rw [← hw44]; go_simp; try rfl) (by rw [hSH]; exact p44) ?_
          simp only [Act.put, List.setIfInBounds_toArray, List.set_cons_zero, List.set_cons_succ]
          refine wpAnyH_ready (rs := [7]) (by kernel_rfl) (by simp) (AllReadyH.cons ((nth_eq _ 7).trans rfl) ?_ AllReadyH.nil)
          intro K' hK
          refine value_in hK (by kernel_rfl) (.slice va na vc) (w44) (by have zz := x37b; go_simp; try rfl) (by rw [hSH]; exact p44) ?_
          simp only [Act.put, List.setIfInBounds_toArray, List.set_cons_zero, List.set_cons_succ]
          refine wpAnyH_ready (rs := [15]) (by kernel_rfl) (by simp) (AllReadyH.cons ((nth_eq _ 15).trans rfl) ?_ AllReadyH.nil)
          intro K' hK
          refine value_in hK (by kernel_rfl) (.slice va5 na5 vc5) (w45) (run_app_op _ _ rfl _ _ _ rfl rfl hrun45) (by rw [hSH]; exact p45) ?_
          simp only [Act.put, List.setIfInBounds_toArray, List.set_cons_zero, List.set_cons_succ]
          refine take_held 16 (by assumption) rfl (by kernel_rfl) (by kernel_rfl) (by kernel_rfl) (fun _ _ _ h => h) (by kernel_rfl) (v := ?v14) ?y14 ?r14
          case y14 => (intro u hu; go_simp; try rfl)
          simp only [Act.put, List.setIfInBounds_toArray, List.set_cons_zero, List.set_cons_succ]
          refine wpAnyH_ready (rs := [17]) (by kernel_rfl) (by simp) (AllReadyH.cons ((nth_eq _ 17).trans rfl) ?_ AllReadyH.nil)
          intro K' hK
          refine skip_in hK (by kernel_rfl) (w45.setCell ⟨gm, c, none⟩ (.slice va5 na5 vc5)) (by have zz := x45; have zf := f45; go_simp; try rfl) (by rw [hSH]; exact (Below.heap_setCell _ _ _ _ (fun e => hgne e.symm)).trans p45) ?_
          simp only [Act.put, List.setIfInBounds_toArray, List.set_cons_zero, List.set_cons_succ]
          refine done_held (by kernel_rfl) ?_ _
          go_wp2_with fail
          go_roundw
          case measure => simp only [intOf]; omega
          case rel => exact ⟨i + 1, _, rfl, hlt, HMP, BP⟩
      · obtain rfl : i = ws.length := by omega
        rw [List.take_length] at HM
        obtain ⟨v0, vals0, TI⟩ := HT.out.go bw.out
        have hd := TI.head
        obtain ⟨av0, cv0, ev0, _⟩ := own_form TI.row
        have h1c : ∀ u ∈ vals0, u.oneCell' = true := fun u hu => by
          obtain ⟨j, hj, rfl⟩ := List.mem_iff_getElem.1 hu
          obtain ⟨y1, y2, y3, _⟩ := (TI.each j (by rw [← TI.len]; exact hj) hj).form
          rw [y3]; rfl
        have cK := cloneRows_any v0 ls.length vals0 wr TI.row h1c hn hn2
        rw [ev0] at hd cK
        have HTI : Hid (TIn F wr b v0 vals0 ls) := TI
        clear TI ev0
        go_wp2_with (go_at_call 44; refine cK.mono ?_; rintro e w5 ⟨v5, rfl, o5, b5⟩; rcases id o5.2 with ⟨_, q⟩ | ⟨ga, cap5, cur5, rfl, hga5, hg5, _⟩; exact absurd hn (by omega))
        have H0 := Half.start HTI.out (owns_base bw.out.size o5) b5 R ws
        have HH0 : Hid (Half F b w.heap.size w5 ga cap5 vals0 ls R ws 0 ls) := H0
        have HM5 : Hid (MoreIn w.heap.size w5 gm ls.length vals (msOf R ws ls.length)) := HM.out.go b5
        have B5 : Hid (Below w.heap.size w w5) := bcat bw.out b5
        have hgg : gm ≠ ga := by have := HM.out.gm_lt; omega
        have hmga : Hid (∀ j (hj : j < vals.length) k, (vals[j]).ownBlock = some k → k ≠ ga) := fun j hj k hk => by have := (own_since (HM.out.each j hj (by rw [msOf_len, ← HM.out.len]; exact hj)) k hk).2; omega
        clear H0 HM bw o5 b5 hg5 HTI cK hd
        go_loopw [55] (fun s55 wr => ∃ (i : Nat) (vs : List Value) (ls' : List (List Sl)), s55 = .int .i64 i ∧ i ≤ ls.length ∧ Hid (Half F b w.heap.size wr ga cap5 vs ls R ws i ls') ∧ Hid (MoreIn w.heap.size wr gm ls.length vals (msOf R ws ls.length)) ∧ Hid (Below w.heap.size w wr)) (fun s55 _ => ls.length - (intOf s55).toNat)
        case atStart => exact ⟨0, vals0, ls, rfl, Nat.zero_le _, HH0, HM5, B5⟩
        case round =>
          clear HH0 HM5 B5
          obtain ⟨i, vs, ls', rfl, hi, HH, HM, bw⟩ := hrel
          rcases Nat.lt_or_ge i ls.length with hlt | hge
          · have hv1 : i < vs.length := by rw [HH.out.len]; exact hlt
            have hl1 : i < ls'.length := by rw [HH.out.len']; exact hlt
            have hv2 : i < vals.length := by rw [HM.out.len]; exact hlt
            have hm2 : i < (msOf R ws ls.length).length := by rw [msOf_len]; exact hlt
            have ga9 := HH.out.cell i hv1
            have gm9 := HM.out.cell i hv2
            have fz9 : wr.frozen? ⟨ga, i, none⟩ = false := HH.out.row.frozenAt i
            have R1 := HH.out.each i hv1 hl1
            rw [HH.out.rest i hlt hl1 (Nat.le_refl _)] at R1
            have R2 := row_of_own slL_len (HM.out.each i hv2 hm2)
            rw [msOf_at] at R2
            have gaL := own_since HH.out.row ga rfl
            have R2' := R2.mono (G := fun k => (F k ∧ k ≠ b) ∨ (w.heap.size ≤ k ∧ k ≠ ga)) fun k hk => Or.inr ⟨hk.2.1, hmga.out i hv2 k hk.1⟩
            obtain ⟨a1, n1, c1, e1⟩ := R1.shape
            obtain ⟨a2, n2, c2, e2⟩ := R2.shape
            rw [e1] at ga9 R1
            rw [e2] at gm9 R2'
            have cW := with_call (with_any _ _ _ _ _ wr.drew (hl _ (List.getElem_mem hlt)) (HFit.out _) (by have := hs _ (List.getElem_mem hlt); have := moreOf_len R ws (i : Nat); omega) (R1.go slL_len (Below.refl _ _).drew) (R2'.go slL_len (Below.refl _ _).drew))
            have hlt' : (i : Int) < (ls.length : Int) := by omega
            have hsm : (i : Int) + 1 ≤ 1000000000 := by omega
            obtain ⟨SM, hSM⟩ : ∃ S : World → Prop, S = fun u => u.cell? ⟨gm, i, none⟩ = some (.slice a2 n2 c2) := ⟨_, rfl⟩
            have hS : SM wr.drew := by rw [hSM]; exact gm9
            have k0 : ∀ u, SM u → u.cell? ⟨gm, i, none⟩ = some (.slice a2 n2 c2) := fun u hu => by rw [hSM] at hu; exact hu
            have lgm : gm < wr.heap.size := HM.out.gm_lt.2
            clear R1 R2 R2'
            go_wp2_with fail
            refine start_held (S := SM) 17 rfl (by kernel_rfl) (hS) ?_
            simp only [Array.replicate_succ, Array.replicate_zero, List.push_toArray, List.nil_append, List.cons_append]
            refine take_held 0 (by assumption) rfl (by kernel_rfl) (by kernel_rfl) (by kernel_rfl) (fun _ _ _ h => h) (by kernel_rfl) (v := ?v15) ?y15 ?r15
            case y15 => (intro u hu; go_simp; try rfl)
            simp only [Act.put, List.setIfInBounds_toArray, List.set_cons_zero, List.set_cons_succ]
            refine take_held 1 (by assumption) rfl (by kernel_rfl) (by kernel_rfl) (by kernel_rfl) (fun _ _ _ h => h) (by kernel_rfl) (v := ?v16) ?y16 ?r16
            case y16 => (intro u hu; go_simp; try rfl)
            simp only [Act.put, List.setIfInBounds_toArray, List.set_cons_zero, List.set_cons_succ]
            refine take_held 2 (by assumption) rfl (by kernel_rfl) (by kernel_rfl) (by kernel_rfl) (fun _ _ _ h => h) (by kernel_rfl) (v := ?v17) ?y17 ?r17
            case y17 => (intro u hu; go_simp; try rfl)
            simp only [Act.put, List.setIfInBounds_toArray, List.set_cons_zero, List.set_cons_succ]
            refine take_held 3 (by assumption) rfl (by kernel_rfl) (by kernel_rfl) (by kernel_rfl) (fun _ _ _ h => h) (by kernel_rfl) (v := ?v18) ?y18 ?r18
            case y18 => (intro u hu; go_simp; try rfl)
            simp only [Act.put, List.setIfInBounds_toArray, List.set_cons_zero, List.set_cons_succ]
            refine take_held 4 (by assumption) rfl (by kernel_rfl) (by kernel_rfl) (by kernel_rfl) (fun _ _ _ h => h) (by kernel_rfl) (v := ?v19) ?y19 ?r19
            case y19 => (intro u hu; go_simp; try rfl)
            simp only [Act.put, List.setIfInBounds_toArray, List.set_cons_zero, List.set_cons_succ]
            refine take_held 6 (by assumption) rfl (by kernel_rfl) (by kernel_rfl) (by kernel_rfl) (fun _ _ _ h => h) (by kernel_rfl) (v := ?v20) ?y20 ?r20
            case y20 => (intro u hu; go_simp; try rfl)
            simp only [Act.put, List.setIfInBounds_toArray, List.set_cons_zero, List.set_cons_succ]
            refine take_held 7 (by assumption) rfl (by kernel_rfl) (by kernel_rfl) (by kernel_rfl) (fun _ _ _ h => h) (by kernel_rfl) (v := ?v21) ?y21 ?r21
            case y21 => (intro u hu; go_simp; try rfl)
            simp only [Act.put, List.setIfInBounds_toArray, List.set_cons_zero, List.set_cons_succ]
            refine take_held 8 (by assumption) rfl (by kernel_rfl) (by kernel_rfl) (by kernel_rfl) (fun _ _ _ h => h) (by kernel_rfl) (v := ?v22) ?y22 ?r22
            case y22 => (intro u hu; go_simp; try rfl)
            simp only [Act.put, List.setIfInBounds_toArray, List.set_cons_zero, List.set_cons_succ]
            refine take_held 9 (by assumption) rfl (by kernel_rfl) (by kernel_rfl) (by kernel_rfl) (fun _ _ _ h => h) (by kernel_rfl) (v := ?v23) ?y23 ?r23
            case y23 => (intro u hu; have zz0 := k0 u hu; go_simp; try rfl)
            simp only [Act.put, List.setIfInBounds_toArray, List.set_cons_zero, List.set_cons_succ]
            refine wpAnyH_ready (rs := [5]) (by kernel_rfl) (by simp) (AllReadyH.cons ((nth_eq _ 5).trans rfl) ?_ AllReadyH.nil)
            intro K' hK
            refine value_in hK (by kernel_rfl) (.slice a1 n1 c1) (wr.drew) (by have zz : wr.drew.cell? ⟨ga, i, none⟩ = some (.slice a1 n1 c1) := ga9; go_simp; try rfl) (hS) ?_
            simp only [Act.put, List.setIfInBounds_toArray, List.set_cons_zero, List.set_cons_succ]
            refine wpAnyH_ready (rs := [10]) (by kernel_rfl) (by simp) (AllReadyH.cons ((nth_eq _ 10).trans rfl) ?_ AllReadyH.nil)
            intro K' hK
            refine call_in hK (by kernel_rfl) 45 #[.slice a1 n1 c1, .slice a2 n2 c2] (by go_simp) _ (cW) ?_
            rintro v w6 ⟨ra, rn, rc, ok, rfl, b6, hr⟩
            have hS6 : SM w6 := by rw [hSM]; exact (cell_same (b6.block gm lgm)).trans gm9
            have ga6 : w6.cell? ⟨ga, i, none⟩ = some (.slice a1 n1 c1) := (cell_same (b6.block ga gaL.2)).trans ga9
            have fz6 : w6.frozen? ⟨ga, i, none⟩ = false := (frozen_same (b6.block ga gaL.2)).trans fz9
            refine ⟨hS6, ?_⟩
            simp only [Act.put, List.setIfInBounds_toArray, List.set_cons_zero, List.set_cons_succ]
            refine take_held 11 (by assumption) rfl (by kernel_rfl) (by kernel_rfl) (by kernel_rfl) (fun _ _ _ h => h) (by kernel_rfl) (v := ?v24) ?y24 ?r24
            case y24 => (intro u hu; go_simp; try rfl)
            simp only [Act.put, List.setIfInBounds_toArray, List.set_cons_zero, List.set_cons_succ]
            refine take_held 12 (by assumption) rfl (by kernel_rfl) (by kernel_rfl) (by kernel_rfl) (fun _ _ _ h => h) (by kernel_rfl) (v := ?v25) ?y25 ?r25
            case y25 => (intro u hu; go_simp; try rfl)
            simp only [Act.put, List.setIfInBounds_toArray, List.set_cons_zero, List.set_cons_succ]
            refine take_held 13 (by assumption) rfl (by kernel_rfl) (by kernel_rfl) (by kernel_rfl) (fun _ _ _ h => h) (by kernel_rfl) (v := ?v26) ?y26 ?r26
            case y26 => (intro u hu; go_simp; try rfl)
            simp only [Act.put, List.setIfInBounds_toArray, List.set_cons_zero, List.set_cons_succ]
            refine take_held 14 (by assumption) rfl (by kernel_rfl) (by kernel_rfl) (by kernel_rfl) (fun _ _ _ h => h) (by kernel_rfl) (v := ?v27) ?y27 ?r27
            case y27 => (intro u hu; go_simp; try rfl)
            simp only [Act.put, List.setIfInBounds_toArray, List.set_cons_zero, List.set_cons_succ]
            refine wpAnyH_ready (rs := [15]) (by kernel_rfl) (by simp) (AllReadyH.cons ((nth_eq _ 15).trans rfl) ?_ AllReadyH.nil)
            intro K' hK
            have hS7 : SM (w6.setCell ⟨ga, i, none⟩ (.slice ra rn rc)) := by rw [hSM]; exact (World.cell?_setCell_other _ _ _ _ (by intro e; cases e; exact hgg rfl)).trans (k0 w6 hS6)
            refine skip_in hK (by kernel_rfl) (w6.setCell ⟨ga, i, none⟩ (.slice ra rn rc)) (by have zz := ga6; have zf := fz6; go_simp; try rfl) (hS7) ?_
            simp only [Act.put, List.setIfInBounds_toArray, List.set_cons_zero, List.set_cons_succ]
            refine take_held 16 (by assumption) rfl (by kernel_rfl) (by kernel_rfl) (by kernel_rfl) (fun _ _ _ h => h) (by kernel_rfl) (v := ?v28) ?y28 ?r28
            case y28 => (intro u hu; go_simp; try rfl)
            simp only [Act.put, List.setIfInBounds_toArray, List.set_cons_zero, List.set_cons_succ]
            refine done_held (by kernel_rfl) ?_ _
            have b6' : Below wr.heap.size wr w6 := bcat (Below.refl _ _).drew b6
            have B6 : Below w.heap.size w w6 := bcat bw.out b6'
            rcases hr with ⟨rfl, hTwo⟩ | ⟨rfl, l', hW, hRow⟩
            · have hMet : Hid (MetT R ws ls) := ⟨i, hlt, two_met (hl _ (List.getElem_mem hlt)) moreOf_r hTwo⟩
              clear hTwo cW
              go_wp2
              go_ret
              have B7 := B6.setCell (p := ⟨ga, i, none⟩) gaL.1 (.slice ra rn rc)
              exact ⟨18, ls, F, rfl, HT.out.go B7, Tn.below B7, fun q => (by rw [hA.out] at q; cases q), fun _ _ => ⟨rfl, rfl⟩, fun _ q => absurd hMet.out q⟩
            · have hgaw : ga < wr.heap.size := gaL.2
              have hS1 := (HH.out.go b6').step (fun k hk => HT.out.low k hk) hlt (.slice ra rn rc) l' hW (hRow.mono fun k hk => by
                rcases hk with q | q
                · exact q
                · have q' : wr.heap.size ≤ k := q
                  exact Or.inr ⟨by have := bw.out.size; omega, by omega⟩)
              have HS1 : Hid _ := hS1
              have hM7 : MoreIn w.heap.size (w6.setCell ⟨ga, i, none⟩ (.slice ra rn rc)) gm ls.length vals (msOf R ws ls.length) := (HM.out.go b6').beside ga i _ hgg hmga.out
              have HM7 : Hid _ := hM7
              clear hS1 hM7 hW hRow cW
              go_wp2_with fail
              go_roundw
              case measure => simp only [intOf]; omega
              case rel => exact ⟨i + 1, _, _, rfl, hlt, HS1, HM7, B6.setCell (p := ⟨ga, i, none⟩) gaL.1 _⟩
          · obtain rfl : i = ls.length := by omega
            have hbw : b < wr.heap.size := Nat.lt_of_lt_of_le hbl bw.out.size
            obtain ⟨v0', vals0', TI'⟩ := HT.out.go bw.out
            have hb0 := TI'.head
            have hbf := TI'.frz 0
            have FN := HH.out.finish HT.out bw.out
            have NM : Hid (¬ MetT R ws ls) := HH.out.no_met hl HFit.out
            have HFN : Hid _ := FN
            have HCR : Hid (ClaimR R ws ls 0 ls') := ⟨fun q => (by rw [hA.out] at q; cases q), fun _ q => absurd q NM.out, fun _ _ => ⟨rfl, HH.out.len', fun j h1 h2 => HH.out.past j h1 h2 h1⟩⟩
            clear TI' FN
            go_wp2
            go_ret
            exact ⟨0, ls', _, rfl, HFN.out.1, HFN.out.2, HCR.out⟩
end Go.Proofs.Ytddkgkafgjdheaa.Rs
