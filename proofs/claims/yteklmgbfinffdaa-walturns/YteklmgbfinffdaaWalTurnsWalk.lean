/-
  WalTurns: a byte that is turned in a record takes it, and all behind it, away; what stands ahead is told.
-/
import Derived.Test.YteklmgbfinffdaaWalTornWalk
namespace Go.Proofs.Yteklmgbfinffdaa.Wal
set_option linter.unusedVariables false
set_option linter.unusedSimpArgs false
open Go Go.RowKit Go.Shelf Go.Proofs
open Go.Proofs.Yteklmgbfinffdaa.Disk (Row getD_in ret_int add_add DiskIs Kept St now setSt owns_row owns_same)

theorem infoI : (Try.prog.info? 3).map (fun i => (i.zero, i.size, i.bytes)) = Option.some (Option.some (.int .i64 0), 1, 8) := by kernel_rfl
theorem Live.turn {W w w' : World} {own : Owns} {D : Nat} {σ : St} {m : Nat} {row : Option Nat} (h : Live W w own D σ m) (hg : w.grownBy w' row) (hr : ∀ g, row = Option.some g → own g = none ∧ W.heap.size ≤ g) : Live W w' own D σ m := by
  refine ⟨?_, h.base, h.below.grown hg h.below.size (fun k e => (hr k e).2)⟩
  obtain ⟨F, hF, hs⟩ := h.disk
  exact ⟨F, hF.same (fun k hk => hg.block k (hF.old k hk) (fun e => hk (hr k e.symm).1)) hg.size, hs⟩
theorem LogIs.turn {own : Owns} {w w' : World} {L D : Nat} {f : Int} {row : Option Nat} (h : LogIs own w L D f) (hg : w.grownBy w' row) (hr : ∀ g, row = Option.some g → g ≠ L) : LogIs own w' L D f := by
  have e := hg.block L h.free.1 (fun e => hr L e.symm rfl)
  exact ⟨⟨Nat.lt_of_lt_of_le h.free.1 hg.size, h.free.2⟩, (cell_block (p := ⟨L, 0, none⟩) e).trans h.disk, (cell_block (p := ⟨L, 1, none⟩) e).trans h.file⟩

/- Where records end. -/
def endAt (xs : List (List Int)) (k : Nat) : Nat := (recsOf (xs.take k)).length
def endsTo (xs : List (List Int)) (k : Nat) : List Int := (List.range (k + 1)).map fun i => (endAt xs i : Int)
theorem endsTo_next (xs : List (List Int)) (k : Nat) : endsTo xs (k + 1) = endsTo xs k ++ [(endAt xs (k + 1) : Int)] := by
  unfold endsTo
  rw [List.range_succ, List.map_append]
  rfl
theorem endsTo_length (xs : List (List Int)) (k : Nat) : (endsTo xs k).length = k + 1 := by simp [endsTo]
theorem endsTo_at (xs : List (List Int)) (k i : Nat) (h : i < k + 1) : (endsTo xs k)[i]? = Option.some (endAt xs i : Int) := by
  unfold endsTo
  rw [List.getElem?_map, List.getElem?_range h]
  rfl
theorem endAt_zero (xs : List (List Int)) : endAt xs 0 = 0 := rfl
theorem endAt_all (xs : List (List Int)) (n : Nat) (h : xs.length = n) : endAt xs n = (recsOf xs).length := by unfold endAt; rw [List.take_of_length_le (by omega)]
theorem endAt_next (xs : List (List Int)) (k : Nat) (hk : k < xs.length) : endAt xs (k + 1) = endAt xs k + (rec xs[k]).length := by
  unfold endAt
  rw [recs_take xs k hk, List.length_append]

structure FedE (W : World) (A : List Piece) (D L c k : Nat) (ev : Value) (wr : World) : Prop where
  live : ∃ own, Live W wr own D (logSt 0 [] (recsOf ((A.map Piece.zs).take k))) (c + k) ∧ LogIs own wr L D 0 ∧
    wr.ownsRow W.heap.size 3 1 ev (k + 1) ((endsTo (A.map Piece.zs) k).map (Value.int .i64)) ∧ ∀ g, ev.ownBlock = Option.some g → Free own wr g ∧ g ≠ L
theorem FedE.below {W wr : World} {A : List Piece} {D L c k : Nat} {ev : Value} (h : FedE W A D L c k ev wr) : Below W.heap.size W wr := by
  obtain ⟨own, hl, _⟩ := h.live
  exact hl.below
theorem FedE.slice {W wr : World} {A : List Piece} {D L c k : Nat} {ev : Value} (h : FedE W A D L c k ev wr) : ∃ g cap, ev = .slice (Option.some ⟨g, 0, none⟩) (k + 1) cap := by
  obtain ⟨own, hl, hg, ho, _⟩ := h.live
  exact ownsRow_succ ho
/- One more: the record behind the others (own, Fr: what the call did to the disk). -/
theorem fedE_next {W wr : World} {A : List Piece} {D L c k : Nat} {ev : Value} (h : FedE W A D L c k ev wr) (hk : k < A.length) (hA : A.length ≤ 40) (hc : c ≤ 4000) (hg : ∀ p ∈ A, 0 < p.zs.length ∧ p.zs.length < 3000)
    (a : Option Addr) (n cap : Nat) (zs : List Int) (hz : (A[k]).zs = zs) (hn : zs.length = n) (w5 : World) (h5 : Below wr.heap.size wr w5) (hr : Row w5 a n zs) (h0 : a = none → cap = 0) :
    Calls Try.prog 23 #[.pointer (Option.some ⟨L, 0, none⟩), .slice a n cap] w5 fun e w' => e = .returned (.int .i64 0) ∧
      ∃ own, Live W w' own D (logSt 0 [] (recsOf ((A.map Piece.zs).take (k + 1)))) (c + (k + 1)) ∧ LogIs own w' L D 0 ∧
        w'.ownsRow W.heap.size 3 1 ev (k + 1) ((endsTo (A.map Piece.zs) k).map (Value.int .i64)) ∧ ∀ g, ev.ownBlock = Option.some g → Free own w' g ∧ g ≠ L := by
  obtain ⟨own, hl, hg', ho, hfree⟩ := h.live
  have hgood := hg _ (List.getElem_mem hk)
  rw [hz] at hgood
  have hlen := recs_len ((A.map Piece.zs).take k) (fun x hx => good_len hg x (List.mem_of_mem_take hx))
  rw [List.length_take, List.length_map] at hlen
  have hbd : (recsOf ((A.map Piece.zs).take k)).length ≤ 120320 := Nat.le_trans hlen (by have := Nat.mul_le_mul_right 3008 (show min k A.length ≤ 40 by omega); omega)
  refine (append_any (hl.later h5) (by omega) (hg'.go (Fr.below h5)) (by decide) a n cap zs hr h0 (by omega) (by omega) ?_).mono ?_
  · rw [logSt_now, List.nil_append]
    omega
  · rintro e w' ⟨rfl, own', hl', f'⟩
    have fr : Fr own own' wr w' := (Fr.below h5).trans f'
    refine ⟨rfl, own', ?_, hg'.go fr, owns_same ho (fun g hgb => ((hfree g hgb).1.go fr).2), fun g hgb => ⟨((hfree g hgb).1.go fr).1, (hfree g hgb).2⟩⟩
    rw [logSt_app] at hl'
    have e : recsOf ((A.map Piece.zs).take (k + 1)) = recsOf ((A.map Piece.zs).take k) ++ rec zs := by
      rw [recs_take _ _ (by rw [List.length_map]; exact hk), List.getElem_map, hz]
    rw [e]
    exact hl'
/- .. and the number behind the others. -/
theorem fedE_put {W w6 w7 w8 : World} {A : List Piece} {D L c k : Nat} {ev v' : Value} {own : Owns} {o : Obj} (hl : Live W w6 own D (logSt 0 [] (recsOf ((A.map Piece.zs).take (k + 1)))) (c + (k + 1))) (hg : LogIs own w6 L D 0)
    (ho : w6.ownsRow W.heap.size 3 1 ev (k + 1) ((endsTo (A.map Piece.zs) k).map (Value.int .i64))) (hf : ∀ g, ev.ownBlock = Option.some g → Free own w6 g ∧ g ≠ L) (b7 : Below w6.heap.size w6 w7)
    (hown : w8.ownsRow W.heap.size 3 1 v' (k + 1 + 1) ((endsTo (A.map Piece.zs) k).map (Value.int .i64) ++ [.int .i64 (endAt (A.map Piece.zs) (k + 1) : Nat)])) (hgrow : (w7.alloc o).grownBy w8 ev.ownBlock)
    (hv : v'.ownBlock = ev.ownBlock ∨ ∃ g, v'.ownBlock = Option.some g ∧ w7.heap.size ≤ g) : FedE W A D L c (k + 1) v' w8 := by
  have ba : Below w6.heap.size w6 (w7.alloc o) := b7.alloc b7.size o
  have hla := hl.later ba
  have hga := hg.go (Fr.below (o := own) ba)
  have hblk : ∀ g, ev.ownBlock = Option.some g → W.heap.size ≤ g := by
    intro g hgb
    rcases ho.2 with ⟨e, _⟩ | ⟨g', cap', cur, e, hb, _⟩
    · rw [e] at hgb; cases hgb
    · rw [e] at hgb; cases hgb; exact hb
  refine ⟨own, hla.turn hgrow (fun g hgb => ⟨(hf g hgb).1.2, hblk g hgb⟩), hga.turn hgrow (fun g hgb => (hf g hgb).2), ?_, fun g hgb => ?_⟩
  · rw [endsTo_next, List.map_append]
    exact hown
  · rcases hv with e | ⟨g', e, hge⟩
    · rw [e] at hgb
      have := hf g hgb
      exact ⟨⟨Nat.lt_of_lt_of_le this.1.1 (Nat.le_trans ba.size hgrow.size), this.1.2⟩, this.2⟩
    · rw [e] at hgb
      cases hgb
      have h1 : g < w8.heap.size := by
        rcases hown.2 with ⟨e', _⟩ | ⟨g'', cap', cur, e', _, hh, _⟩
        · rw [e'] at e; cases e
        · rw [e'] at e; cases e; exact (Array.getElem?_eq_some_iff.1 hh).1
      refine ⟨hl.free (Nat.le_trans b7.size hge) h1, ?_⟩
      have := hg.free.1
      have := b7.size
      omega
/- The turned bytes. -/
theorem turned_split (xs : List (List Int)) (n : Nat) (hn : n < xs.length) (p : Nat) (v : Int) (h1 : endAt xs n ≤ p) (h2 : p < endAt xs (n + 1)) :
    (recsOf xs).set p v = recsOf (xs.take n) ++ ((rec xs[n]).set (p - endAt xs n) v ++ recsOf (xs.drop (n + 1))) := by
  have e : recsOf xs = recsOf (xs.take n) ++ (rec xs[n] ++ recsOf (xs.drop (n + 1))) := by
    conv => lhs; rw [← List.take_append_drop n xs, recsOf_append, List.drop_eq_getElem_cons hn, recsOf_cons]
  rw [e, List.set_append_right _ _ (by exact h1)]
  have hl := endAt_next xs n hn
  rw [List.set_append_left _ _ (by have : p - (recsOf (xs.take n)).length = p - endAt xs n := rfl; omega)]
  rfl
theorem turned_byte (xs : List (List Int)) (n : Nat) (hn : n < xs.length) (p : Nat) (h1 : endAt xs n ≤ p) (h2 : p < endAt xs (n + 1)) (hp : p < (recsOf xs).length) (hq : p - endAt xs n < (rec xs[n]).length) : (recsOf xs)[p] = (rec xs[n])[p - endAt xs n] := by
  have e : recsOf xs = recsOf (xs.take n) ++ (rec xs[n] ++ recsOf (xs.drop (n + 1))) := by
    conv => lhs; rw [← List.take_append_drop n xs, recsOf_append, List.drop_eq_getElem_cons hn, recsOf_cons]
  have h3 : (recsOf xs)[p]? = Option.some ((rec xs[n])[p - endAt xs n]) := by
    rw [e, List.getElem?_append_right (by exact h1)]
    rw [List.getElem?_append_left (by exact hq), List.getElem?_eq_getElem (by exact hq)]
    rfl
  rw [List.getElem?_eq_getElem hp] at h3
  exact Option.some.inj h3
theorem xor_ne (c y : Int) (c0 : 0 ≤ c) (c1 : c < 256) (y0 : 0 ≤ y) (y1 : y < 256) (hy : y ≠ 0) : ∃ v : Int, bits .xor .u8 c y = v ∧ 0 ≤ v ∧ v < 256 ∧ v ≠ c := by
  obtain ⟨h1, h2, h3⟩ := Crc.u8_word c y c0 c1 y0 y1
  refine ⟨_, rfl, h2, h3, fun e => hy ?_⟩
  rw [e] at h1
  have h4 : c.toNat ^^^ c.toNat = c.toNat ^^^ (c.toNat ^^^ y.toNat) := by rw [← h1]
  rw [Nat.xor_self, ← Nat.xor_assoc, Nat.xor_self, Nat.zero_xor] at h4
  omega
theorem wpList_append_int {w : World} {ops : Array Oper} {rest : List Oper} {o : Oper} {a : Act} {Q : Exit → Act → World → Prop} (hgd : o.guard = none) (s x : Operand)
    (ho : o.op = .call { callee := .builtin .append, args := #[s, x], argTypes := #[56, 56] }) (B : Nat) (v : Value) (n : Nat) (vs : List Value) (hs : a.eval s = v) (hown : w.ownsRow B 3 1 v n vs) (hB : B ≤ w.heap.size)
    (b : Nat) (z : Int) (hx : a.eval x = .slice (Option.some ⟨b, 0, none⟩) 1 1) (hc : w.cell? ⟨b, 0, none⟩ = Option.some (.int .i64 z)) (hb : n + 1 ≤ 16777216)
    (h : ∀ g c w', w'.ownsRow B 3 1 (.slice (Option.some ⟨g, 0, none⟩) (n + 1) c) (n + 1) (vs ++ [.int .i64 z]) → w.grownBy w' v.ownBlock → (v.ownBlock = Option.some g ∨ g = w.heap.size) → wpList Try.prog ops Q rest (a.put o.dst (.slice (Option.some ⟨g, 0, none⟩) (n + 1) c)) w') : wpList Try.prog ops Q (o :: rest) a w := by
  obtain ⟨i0, hi, hz0, hz1, hz2⟩ := info_parts infoI
  obtain ⟨v', w', hrun, hown', hgrow, _, hat⟩ := run_append_own_at (P := Try.prog) w B 56 o.type 3 i0 (.int .i64 0) 1 8 Try.underlying56 hi hz0 hz1 hz2 rfl (by decide) v n vs hown ⟨b, 0, none⟩ 1 1 [.int .i64 z] rfl (fun j u hj => by
    cases j with
    | zero => simp only [List.getElem?_cons_zero] at hj; cases hj; rw [add_nought]; exact hc
    | succ j => simp at hj) (by simp [Value.oneCell']) (by unfold maxLen; omega) (by omega) hB
  obtain ⟨g, c, rfl⟩ := ownsRow_succ hown'
  refine wpList_plain hgd fun K hK => ?_
  unfold Oper.wp
  simp [execOp, ho, resolve, invoke, builtin, hs, hx, hrun, Result.andThen]
  refine hK _ _ (h g c w' hown' hgrow ?_)
  rcases hat with e | e
  · exact .inl e.symm
  · cases e; exact .inr rfl
theorem one_int (W w : World) (h : W.heap.size ≤ w.heap.size) (z : Int) : (w.alloc (.cells #[.int .i64 z] 3)).ownsRow W.heap.size 3 1 (.slice (Option.some ⟨w.heap.size, 0, none⟩) 1 1) 1 [.int .i64 z] :=
  ⟨rfl, .inr ⟨w.heap.size, 1, #[.int .i64 z], rfl, h, World.alloc_heap_new w _, Nat.le_refl _, by decide, rfl, rfl⟩⟩
theorem recs_pos (xs : List (List Int)) (h : 0 < xs.length) (hf : ∀ x ∈ xs, Fits x) : 9 ≤ (recsOf xs).length := by
  cases xs with
  | nil => simp at h
  | cons x xs =>
    rw [recsOf_cons, List.length_append, rec_len]
    have := (hf x (List.mem_cons_self ..)).1
    omega
theorem openSt_now (σ : St) (i e : Nat) (he : e ≤ (now σ i).length) : now (openSt σ i e) i = (now σ i).take e := by
  unfold openSt
  split
  · rw [now_sync]
  · rw [List.take_of_length_le (by omega)]
theorem app_zero (bs : List Int) (h : bs.length ≤ 16777216) : Disk.appErr σ0 0 bs.length = 0 ∧ now (Disk.appSt σ0 0 bs) 0 = bs := by
  have e : Disk.appErr σ0 0 bs.length = 0 := by
    unfold Disk.appErr
    rw [Disk.isFile_yes (.inl rfl), if_pos rfl]
    show (if 16777216 < (now σ0 0).length + bs.length then (2 : Int) else 0) = 0
    have : (now σ0 0).length = 0 := rfl
    rw [if_neg (by omega)]
  refine ⟨e, ?_⟩
  have := now_app σ0 0 bs
  unfold Disk.appSt
  rw [e, if_pos rfl]
  exact this

set_option maxRecDepth 100000 in
set_option maxHeartbeats 8000000 in
theorem turns_all (a0 : Option Addr) (len0 cap0 : Nat) (at_ by_ : Int) (ps0 : List Piece) (w : World) (h0 : Texts w a0 len0 ps0) (hl0 : len0 ≤ 9223372036854775807) (y0 : 0 ≤ by_) (y1 : by_ < 256) :
    Calls Try.prog 7 #[.slice a0 len0 cap0, .int .i64 at_, .int .u8 by_] w fun e w' => e = .returned (.bool true) ∧ Below w.heap.size w w' := by
  have gA := sayOf_good ps0
  have lA := sayOf_length ps0
  have s0 := say_any a0 len0 cap0 ps0 w h0 hl0
  have hpin : ∀ (w1 : World), Below w.heap.size w w1 → ∀ p ∈ sayOf ps0, PieceIn w1 p := fun w1 hb p hp => (h0.after hb).piece p (sayOf_mem ps0 p hp)
  obtain ⟨A, hA⟩ : ∃ A, sayOf ps0 = A := ⟨_, rfl⟩
  rw [hA] at gA lA s0 hpin
  clear hA
  obtain ⟨nA, hnA⟩ : ∃ n, A.length = n := ⟨_, rfl⟩
  rw [hnA] at s0
  have hO : openSt σ0 0 (stop 0 []) = σ0 := openSt_same σ0 0
  have hRA := recs_len _ (good_len gA)
  rw [List.length_map, hnA] at hRA
  have tA : (A.map Piece.zs).take nA = A.map Piece.zs := List.take_of_length_le (by rw [List.length_map]; omega)
  have c13 := awake_any
  go_enter Try.func7, Try.ntmps7
  go_wp2_with (first
    | (go_at_call 14; refine (open_any h3' (by decide) 0 (by decide) [] rfl [] ⟨trivial, rfl⟩).mono ?_; rintro e w4 ⟨own4, L, ta4, tc4, ps4, rfl, h4, f4, lg4, t4, hp4⟩; rw [hO, ← logSt_nil 0] at h4)
    | (go_at_call 10; refine (live_new w1 w1 (Below.refl _ _)).mono ?_; rintro e w3 ⟨rfl, ⟨own3, h3'⟩, b3⟩)
    | (go_at_call 25; refine s0.mono ?_; rintro e w1 ⟨aA, cA, rfl, TA, nnA, leA, b1⟩))
  obtain ⟨D, hD⟩ : ∃ D, w1.heap.size = D := ⟨_, rfl⟩
  have fed0 : FedE w1 A D L 3 0 (.slice (Option.some ⟨w4.heap.size, 0, none⟩) 1 1) (w4.alloc (.cells #[.int .i64 0] 3)) := by
    have ba : Below w4.heap.size w4 (w4.alloc (.cells #[.int .i64 0] 3)) := (Below.refl _ _).alloc (Nat.le_refl _) _
    rw [← hD]
    refine ⟨own4, h4.later ba, lg4.go (Fr.below ba), one_int w1 w4 h4.below.size 0, fun g hg => ?_⟩
    cases hg
    refine ⟨h4.free (Nat.le_refl _) (by simp), ?_⟩
    show w4.heap.size ≠ L
    have := lg4.free.1
    omega
  rw [hD]
  clear h4 lg4 t4 hp4 f4 h3' b3
  go_loopw [12, 13] (fun ev j wr => ∃ k : Nat, k ≤ nA ∧ j = .int .i64 k ∧ FedE w1 A D L 3 k ev wr) (fun _ j _ => nA - (intOf j).toNat)
  case atStart => exact ⟨0, by omega, rfl, fed0⟩
  case round =>
    clear fed0
    obtain ⟨k, hk, rfl, hfed⟩ := hrel
    obtain ⟨eg, ec, rfl⟩ := hfed.slice
    by_cases hlt : k < nA
    · have t0 : (k : Int) < (nA : Int) := by omega
      obtain ⟨x, rfl, hcA, hiA⟩ := (TA.after hfed.below).get k (by omega)
      have hgood := gA _ (List.getElem_mem (show k < A.length by omega))
      have cC := Disk.copy_any (A[k]).a (A[k]).zs.length (A[k]).cap (A[k]).zs wr hiA.row (by omega) hiA.nil
      have cN := fedE_next hfed (show k < A.length by omega) (by omega) (by omega) gA
      have hput := fun (w6 w7 w8 : World) (own : Owns) (o : Obj) (v' : Value) hl hg ho hf b7 hown hgrow hv => @fedE_put w1 w6 w7 w8 A D L 3 k (.slice (Option.some ⟨eg, 0, none⟩) (k + 1) ec) v' own o hl hg ho hf b7 hown hgrow hv
      obtain ⟨E1, hE1⟩ : ∃ E, endAt (A.map Piece.zs) (k + 1) = E := ⟨_, rfl⟩
      have hE1' : (recsOf ((A.map Piece.zs).take (k + 1))).length = E1 := hE1
      obtain ⟨P, hP⟩ : ∃ P, A[k] = P := ⟨_, rfl⟩
      rw [hP] at cC cN hcA
      clear hgood hiA hP
      rw [hE1] at hput
      generalize (endsTo (A.map Piece.zs) k).map (Value.int .i64) = es at *
      generalize hRk : recsOf ((A.map Piece.zs).take (k + 1)) = Rk at *
      generalize hzz : P.zs = zz at *
      generalize hll : zz.length = ll at *
      generalize P.a = pa at *
      generalize P.cap = pc at *
      have hsize := logSt_now 0 [] Rk
      rw [List.nil_append] at hsize
      go_wp2_with (first
        | (at_builtin; refine wpList_append_int rfl (.tmp 50) (.tmp 53) rfl w1.heap.size (.slice (Option.some ⟨eg, 0, none⟩) (k + 1) ec) (k + 1) es rfl ((owns_later o6 b7).alloc _) (by have := hl6.below.size; have := b7.size; simp; omega) w7.heap.size E1 rfl (Boxed.new w7 3 (.int .i64 E1)).cell (by omega) ?_; intro g8 c8 w8 o8 gr8 at8)
        | (go_at_call 17; refine (size_any hl6 (by omega) lg6 (by decide)).mono ?_; rintro e w7 ⟨rfl, b7⟩; rw [hsize, hE1'])
        | (go_at_call 23; refine (cN a5 ll c5 zz rfl hll w5 b5 r5 n5).mono ?_; rintro e w6 ⟨rfl, own6, hl6, lg6, o6, fr6⟩)
        | (go_at_call 12; refine cC.mono ?_; rintro e w5 ⟨a5, c5, rfl, r5, o5, b5⟩; have n5 := fun h => ((Disk.owns_form o5).1 h).2))
      go_roundw
      case rel => exact ⟨k + 1, by omega, by go_num, hput w6 w7 w8 own6 _ _ hl6 lg6 o6 fr6 b7 o8 gr8 (at8.elim (fun e => .inl e.symm) (fun e => .inr ⟨g8, rfl, by rw [e]; simp⟩))⟩
      case measure => simp [intOf]; omega
    · have t0 : ¬ ((k : Int) < (nA : Int)) := by omega
      obtain rfl : k = nA := by omega
      obtain ⟨ownA, hlA, lgA, oE, frE⟩ := hfed.live
      rw [tA] at hlA
      have bwr : Below w.heap.size w wr := bcat b1 hfed.below
      clear hfed
      by_cases hk0 : k = 0
      · subst hk0
        go_wp2_with (go_at_call 9; refine (c13 wr).mono ?_; rintro e w17 ⟨rfl, b17⟩)
        go_ret
        exact ⟨rfl, bcat bwr b17⟩
      · have x0 : ((k : Int) == 0) = false := by rw [beq_eq_false_iff_ne]; omega
        by_cases hy0 : by_ = 0
        · subst hy0
          go_wp2_with (go_at_call 9; refine (c13 wr).mono ?_; rintro e w17 ⟨rfl, b17⟩)
          go_ret
          exact ⟨rfl, bcat bwr b17⟩
        · have x1 : (by_ == 0) = false := by rw [beq_eq_false_iff_ne]; exact hy0
          obtain ⟨xs, hxs⟩ : ∃ xs, A.map Piece.zs = xs := ⟨_, rfl⟩
          have fxs : ∀ x ∈ xs, Fits x := by rw [← hxs]; exact good_fits gA
          have hxl : xs.length = k := by rw [← hxs, List.length_map]; exact hnA
          rw [hxs] at hlA oE hRA
          have hnow : now (logSt 0 [] (recsOf xs)) 0 = recsOf xs := by rw [logSt_now]; rfl
          obtain ⟨R, hR⟩ : ∃ R, recsOf xs = R := ⟨_, rfl⟩
          rw [hR] at hnow hlA hRA
          obtain ⟨N, hN⟩ : ∃ N, R.length = N := ⟨_, rfl⟩
          have hEall : endAt xs k = N := by rw [endAt_all xs k hxl, hR, hN]
          have hN9 : 9 ≤ N := by rw [← hN, ← hR]; exact recs_pos xs (by omega) fxs
          obtain ⟨V, rfl⟩ : ∃ V, V = wr := ⟨_, rfl⟩
          obtain ⟨p, hp, hpN⟩ := place_nat at_ (N - 1)
          rw [show ((N - 1 : Nat) : Int) + 1 = (N : Int) by omega] at hp
          go_wp2_with (first
            | (go_at_call 21; refine (Crc.place_any at_ (N : Int) w9 (by omega) (by omega)).mono ?_; rintro e w' ⟨rfl, hw'⟩; rw [hw', hp])
            | (go_at_call 18; refine (read_live hlA (by omega) 0 (by decide) R N hnow hN).mono ?_; rintro e w9 ⟨a9, c9, rfl, o9, r9, n9, b9⟩))
          have oE9 := owns_later oE b9
          have kE : ∀ i, i < k + 1 → w9.cell? ⟨eg, i, none⟩ = Option.some (.int .i64 (endAt xs i : Nat)) := by
            intro i hi
            have hc := oE9.cellAt i (by omega)
            rw [hc, List.getElem?_map, endsTo_at xs k i hi]
            rfl
          go_loopw [16] (fun j wq => wq = w9 ∧ ∃ n : Nat, n < k ∧ j = .int .i64 n ∧ endAt xs n ≤ p) (fun j _ => k - (intOf j).toNat)
          case atStart => exact ⟨rfl, 0, by omega, rfl, by rw [endAt_zero]; omega⟩
          case round =>
            obtain ⟨hwq, n, hnk, rfl, hEn⟩ := hrel
            rw [hwq]
            clear hwq
            have kE1 := kE (n + 1) (by omega)
            have kE0 := kE n (by omega)
            have tn : (n : Int) + 1 < (k : Int) + 1 := by omega
            have tn0 : (n : Int) < (k : Int) + 1 := by omega
            have hnx := endAt_next xs n (by omega)
            obtain ⟨En, hEn0⟩ : ∃ E, endAt xs n = E := ⟨_, rfl⟩
            obtain ⟨E1, hE10⟩ : ∃ E, endAt xs (n + 1) = E := ⟨_, rfl⟩
            rw [hEn0] at hEn kE0 hnx
            rw [hE10] at kE1 hnx
            by_cases hle : E1 ≤ p
            · have tl : (E1 : Int) ≤ (p : Int) := by omega
              have hn2 : n + 1 < k := by
                rcases Nat.lt_or_ge (n + 1) k with h | h
                · exact h
                · have : n + 1 = k := by omega
                  rw [this, hEall] at hE10
                  omega
              go_wp2
              go_roundw
              case rel => exact ⟨by first | rfl | trivial, n + 1, hn2, by go_num, by rw [hE10]; exact hle⟩
              case measure => simp [intOf]; omega
            · have tl : ¬ ((E1 : Int) ≤ (p : Int)) := by omega
              by_cases h4 : p - En < 4
              · have t4 : (p : Int) - (En : Int) < 4 := by omega
                go_wp2_with (go_at_call 9; refine (c13 w9).mono ?_; rintro e w17 ⟨rfl, b17⟩)
                go_ret
                exact ⟨rfl, bcat (bcat bwr b9) b17⟩
              · have t4 : ¬ ((p : Int) - (En : Int) < 4) := by omega
                obtain ⟨g9, rfl⟩ := Disk.own_at o9 (by omega)
                have hpR : p < R.length := by omega
                have kB := o9.cellAt p (by omega)
                have hRs := r9.small R[p] (List.getElem_mem hpR)
                rw [List.getElem?_map, List.getElem?_eq_getElem hpR, Option.map_some] at kB
                have kFz := o9.frozenAt p
                have tp : (p : Int) < (N : Int) := by omega
                obtain ⟨v, hv, v0, v1, vne⟩ := xor_ne R[p] by_ hRs.1 hRs.2 y0 y1 hy0
                obtain ⟨st1, st2⟩ := o9.stored p (.int .u8 v)
                rw [← List.map_set] at st1
                have hsm : ∀ z ∈ R.set p v, 0 ≤ z ∧ z < 256 := by
                  intro z hz
                  rcases List.mem_or_eq_of_mem_set hz with h | h
                  · exact r9.small z h
                  · rw [h]; exact ⟨v0, v1⟩
                obtain ⟨r10, n10, _⟩ := owns_row st1 hsm
                have hq : p - endAt xs n < (rec (xs[n]'(by omega))).length := by rw [hEn0]; omega
                have hsplit := turned_split xs n (by omega) p v (by rw [hEn0]; exact hEn) (by rw [hE10]; omega)
                have hbyte := turned_byte xs n (by omega) p (by rw [hEn0]; exact hEn) (by rw [hE10]; omega) (by rw [hR]; exact hpR) hq
                have hxall : ∀ x ∈ xs, ∀ z ∈ x, 0 ≤ z ∧ z < 256 := by
                  intro x hx
                  rw [← hxs] at hx
                  obtain ⟨P, hP, rfl⟩ := List.mem_map.1 hx
                  exact (hpin w (Below.refl _ _) P hP).row.small
                have hxsm := hxall _ (List.getElem_mem (show n < xs.length by omega))
                have hfst := first_turned (xs[n]'(by omega)) (recsOf (xs.drop (n + 1))) (fxs _ (List.getElem_mem _)) hxsm (p - endAt xs n) v (by rw [hEn0]; omega) hq v0 v1 (by
                  rw [← hbyte]
                  simpa only [hR] using vne)
                rw [hR] at hsplit
                have fT : ∀ x ∈ xs.take n, Fits x := fun x hx => fxs x (List.mem_of_mem_take hx)
                obtain ⟨hdn, hst, hsy⟩ := done_recs (xs.take n) fT _ hfst
                rw [← hsplit] at hdn hsy
                have hlT : (lens (xs.take n)).length = n := by rw [lens_length, List.length_take]; omega
                have hstE : stop 0 (lens (xs.take n)) = En := by rw [hst]; exact hEn0
                have hSl : (R.set p v).length = N := by rw [List.length_set, hN]
                obtain ⟨ez, enow⟩ := app_zero (R.set p v) (by rw [hSl]; omega)
                rw [hSl] at ez
                obtain ⟨σ2, hσ2⟩ : ∃ σ, Disk.appSt σ0 0 (R.set p v) = σ := ⟨_, rfl⟩
                rw [hσ2] at enow
                have cO := fun (w11 w12 : World) (own12 : Owns) (D2 : Nat) (h12 : Live w11 w12 own12 D2 σ2 1) => open_any h12 (by decide) 0 (by decide) _ enow (lens (xs.take n)) hdn
                rw [hsy, hlT, hstE] at cO
                have hsz : (now (openSt σ2 0 En) 0).length = En := by
                  rw [openSt_now _ _ _ (by rw [enow, hSl]; omega), enow, List.length_take, hSl]
                  omega
                obtain ⟨σ3, hσ3⟩ : ∃ σ, openSt σ2 0 En = σ := ⟨_, rfl⟩
                rw [hσ3] at cO hsz
                have b10 : Below V.heap.size V (w9.setCell ⟨g9, p, none⟩ (.int .u8 v)) := b9.grown st2 b9.size (fun q' hq' => by
                  cases hq'
                  exact row_from o9 g9 rfl)
                obtain ⟨w10, hw10⟩ : ∃ w10, w9.setCell ⟨g9, p, none⟩ (.int .u8 v) = w10 := ⟨_, rfl⟩
                rw [hw10] at st1 st2 r10 b10
                have hgN : g9 ≠ eg := by
                  have h1 := row_from o9 g9 rfl
                  have h2 := (frE eg rfl).1.1
                  omega
                have kE10 : w10.cell? ⟨eg, n, none⟩ = Option.some (.int .i64 (En : Nat)) := (cell_block (p := ⟨eg, n, none⟩) (st2.block eg (World.block_lt_of_cell? w9 _ kE0) (fun e => hgN (Option.some.inj e).symm))).trans kE0
                have r10' := fun (w11 : World) (hb : Below w10.heap.size w10 w11) => r10.after hb
                generalize R[p] = c0 at *
                go_wp2_with (first
                  | (go_at_call 14; refine (cO w10 w12 own12 w10.heap.size h12).mono ?_; rintro e w13 ⟨own13, L13, ta13, tc13, ps13, rfl, h13, f13, lg13, t13, hp13⟩)
                  | (go_at_call 11; refine (Disk.append_any w10.heap.size w11 own11 σ0 0 h11.disk (by decide) 0 _ N c9 (R.set p v) (r10' w11 b11) (fun h => by cases h) (by omega)).mono ?_; rintro e w12 ⟨rfl, gg12⟩; obtain ⟨own12, h12, f12⟩ := h11.goes gg12; rw [hσ2] at h12)
                  | (go_at_call 10; (try rw [hv]); (try rw [hw10]); refine (live_new w10 w10 (Below.refl _ _)).mono ?_; rintro e w11 ⟨rfl, ⟨own11, h11⟩, b11⟩))
                have b13 : Below V.heap.size V w13 := b10.trans (h13.below.mono b10.size)
                have bw13 : Below w.heap.size w w13 := bcat bwr b13
                have TA13 := TA.after (bcat hlA.below b13)
                have kE13 : w13.cell? ⟨eg, n, none⟩ = Option.some (.int .i64 (En : Nat)) := (h13.below.cell (p := ⟨eg, n, none⟩) (World.block_lt_of_cell? w10 _ kE10)).trans kE10
                have kEu : ∀ u, Below w13.heap.size w13 u → u.cell? ⟨eg, n, none⟩ = Option.some (.int .i64 (En : Nat)) := fun u hu => (hu.cell (p := ⟨eg, n, none⟩) (World.block_lt_of_cell? w13 _ kE13)).trans kE13
                have hpt : ps13.map Piece.zs = (A.take n).map Piece.zs := by rw [hp13, List.map_take, hxs]
                have hS : Below w13.heap.size w13 w13.drew := (Below.refl _ _).drew
                have c16 := fun (u : World) (hu : Below w13.heap.size w13 u) => same_any ta13 aA n tc13 n cA ps13 (A.take n) u (t13.toTexts.after hu) ((TA13.after hu).part n (by omega)) (by omega) (by omega)
                rw [decide_eq_true hpt] at c16
                have cSz := fun (u : World) (hu : Below w13.heap.size w13 u) => size_live (h13.later hu) 0 (by decide) En hsz
                have tcA : (n : Int) ≤ (cA : Int) := by omega
                refine start_held (S := fun u => Below w13.heap.size w13 u) 28 rfl (by kernel_rfl) (hS) ?_
                simp only [Array.replicate_succ, Array.replicate_zero, List.push_toArray, List.nil_append, List.cons_append]
                refine take_held 0 (by assumption) rfl (by kernel_rfl) (by kernel_rfl) (by kernel_rfl) (fun _ _ _ h => h) (by kernel_rfl) (v := ?v0) ?y0 ?r0
                case y0 => (intro u hu; go_simp; try rfl)
                simp only [Act.put, List.setIfInBounds_toArray, List.set_cons_zero, List.set_cons_succ]
                refine take_held 1 (by assumption) rfl (by kernel_rfl) (by kernel_rfl) (by kernel_rfl) (fun _ _ _ h => h) (by kernel_rfl) (v := ?v1) ?y1 ?r1
                case y1 => (intro u hu; go_simp; try rfl)
                simp only [Act.put, List.setIfInBounds_toArray, List.set_cons_zero, List.set_cons_succ]
                refine take_held 2 (by assumption) rfl (by kernel_rfl) (by kernel_rfl) (by kernel_rfl) (fun _ _ _ h => h) (by kernel_rfl) (v := ?v2) ?y2 ?r2
                case y2 => (intro u hu; go_simp; try rfl)
                simp only [Act.put, List.setIfInBounds_toArray, List.set_cons_zero, List.set_cons_succ]
                refine take_held 3 (by assumption) rfl (by kernel_rfl) (by kernel_rfl) (by kernel_rfl) (fun _ _ _ h => h) (by kernel_rfl) (v := ?v3) ?y3 ?r3
                case y3 => (intro u hu; go_simp; try rfl)
                simp only [Act.put, List.setIfInBounds_toArray, List.set_cons_zero, List.set_cons_succ]
                refine take_held 4 (by assumption) rfl (by kernel_rfl) (by kernel_rfl) (by kernel_rfl) (fun _ _ _ h => h) (by kernel_rfl) (v := ?v4) ?y4 ?r4
                case y4 => (intro u hu; go_simp; try rfl)
                simp only [Act.put, List.setIfInBounds_toArray, List.set_cons_zero, List.set_cons_succ]
                refine take_held 5 (by assumption) rfl (by kernel_rfl) (by kernel_rfl) (by kernel_rfl) (fun _ _ _ h => h) (by kernel_rfl) (v := ?v5) ?y5 ?r5
                case y5 => (intro u hu; go_simp; try rfl)
                simp only [Act.put, List.setIfInBounds_toArray, List.set_cons_zero, List.set_cons_succ]
                refine take_held 6 (by assumption) rfl (by kernel_rfl) (by kernel_rfl) (by kernel_rfl) (fun _ _ _ h => h) (by kernel_rfl) (v := ?v6) ?y6 ?r6
                case y6 => (intro u hu; go_simp; try rfl)
                simp only [Act.put, List.setIfInBounds_toArray, List.set_cons_zero, List.set_cons_succ]
                refine take_held 7 (by assumption) rfl (by kernel_rfl) (by kernel_rfl) (by kernel_rfl) (fun _ _ _ h => h) (by kernel_rfl) (v := ?v7) ?y7 ?r7
                case y7 => (intro u hu; go_simp; try rfl)
                simp only [Act.put, List.setIfInBounds_toArray, List.set_cons_zero, List.set_cons_succ]
                refine take_held 8 (by assumption) rfl (by kernel_rfl) (by kernel_rfl) (by kernel_rfl) (fun _ _ _ h => h) (by kernel_rfl) (v := ?v8) ?y8 ?r8
                case y8 => (intro u hu; go_simp; try rfl)
                simp only [Act.put, List.setIfInBounds_toArray, List.set_cons_zero, List.set_cons_succ]
                refine take_held 9 (by assumption) rfl (by kernel_rfl) (by kernel_rfl) (by kernel_rfl) (fun _ _ _ h => h) (by kernel_rfl) (v := ?v9) ?y9 ?r9
                case y9 => (intro u hu; go_simp; try rfl)
                simp only [Act.put, List.setIfInBounds_toArray, List.set_cons_zero, List.set_cons_succ]
                refine take_held 10 (by assumption) rfl (by kernel_rfl) (by kernel_rfl) (by kernel_rfl) (fun _ _ _ h => h) (by kernel_rfl) (v := ?v10) ?y10 ?r10
                case y10 => (intro u hu; go_simp; try rfl)
                simp only [Act.put, List.setIfInBounds_toArray, List.set_cons_zero, List.set_cons_succ]
                refine take_held 11 (by assumption) rfl (by kernel_rfl) (by kernel_rfl) (by kernel_rfl) (fun _ _ _ h => h) (by kernel_rfl) (v := ?v11) ?y11 ?r11
                case y11 => (intro u hu; go_simp; try rfl)
                simp only [Act.put, List.setIfInBounds_toArray, List.set_cons_zero, List.set_cons_succ]
                refine take_held 12 (by assumption) rfl (by kernel_rfl) (by kernel_rfl) (by kernel_rfl) (fun _ _ _ h => h) (by kernel_rfl) (v := ?v12) ?y12 ?r12
                case y12 => (intro u hu; go_simp; try rfl)
                simp only [Act.put, List.setIfInBounds_toArray, List.set_cons_zero, List.set_cons_succ]
                refine call_held 13 rfl (by kernel_rfl) (by kernel_rfl) 15 #[.slice ta13 n tc13, .slice aA n cA] (by go_simp) _ (call_val (c16 w13.drew hS)) ?_
                rintro v w14 ⟨rfl, b14⟩
                refine ⟨hS.trans (b14.mono hS.size), ?_⟩
                simp only [Act.put, List.setIfInBounds_toArray, List.set_cons_zero, List.set_cons_succ]
                have hS14 : Below w13.heap.size w13 w14 := hS.trans (b14.mono hS.size)
                refine take_held 14 (by assumption) rfl (by kernel_rfl) (by kernel_rfl) (by kernel_rfl) (fun _ _ _ h => h) (by kernel_rfl) (v := ?v13) ?y13 ?r13
                case y13 => (intro u hu; go_simp; try rfl)
                simp only [Act.put, List.setIfInBounds_toArray, List.set_cons_zero, List.set_cons_succ]
                refine take_held 15 (by assumption) rfl (by kernel_rfl) (by kernel_rfl) (by kernel_rfl) (fun _ _ _ h => h) (by kernel_rfl) (v := ?v14) ?y14 ?r14
                case y14 => (intro u hu; go_simp; try rfl)
                simp only [Act.put, List.setIfInBounds_toArray, List.set_cons_zero, List.set_cons_succ]
                refine take_held 16 (by assumption) rfl (by kernel_rfl) (by kernel_rfl) (by kernel_rfl) (fun _ _ _ h => h) (by kernel_rfl) (v := ?v15) ?y15 ?r15
                case y15 => (intro u hu; go_simp; try rfl)
                simp only [Act.put, List.setIfInBounds_toArray, List.set_cons_zero, List.set_cons_succ]
                refine take_held 18 (by assumption) rfl (by kernel_rfl) (by kernel_rfl) (by kernel_rfl) (fun _ _ _ h => h) (by kernel_rfl) (v := ?v16) ?y16 ?r16
                case y16 => (intro u hu; go_simp; try rfl)
                simp only [Act.put, List.setIfInBounds_toArray, List.set_cons_zero, List.set_cons_succ]
                refine take_held 19 (by assumption) rfl (by kernel_rfl) (by kernel_rfl) (by kernel_rfl) (fun _ _ _ h => h) (by kernel_rfl) (v := ?v17) ?y17 ?r17
                case y17 => (intro u hu; go_simp; try rfl)
                simp only [Act.put, List.setIfInBounds_toArray, List.set_cons_zero, List.set_cons_succ]
                refine take_held 20 (by assumption) rfl (by kernel_rfl) (by kernel_rfl) (by kernel_rfl) (fun _ _ _ h => h) (by kernel_rfl) (v := ?v18) ?y18 ?r18
                case y18 => (intro u hu; go_simp; try rfl)
                simp only [Act.put, List.setIfInBounds_toArray, List.set_cons_zero, List.set_cons_succ]
                refine take_held 21 (by assumption) rfl (by kernel_rfl) (by kernel_rfl) (by kernel_rfl) (fun _ _ _ h => h) (by kernel_rfl) (v := ?v19) ?y19 ?r19
                case y19 => (intro u hu; have := kEu u hu; go_simp; try rfl)
                simp only [Act.put, List.setIfInBounds_toArray, List.set_cons_zero, List.set_cons_succ]
                refine call_held 17 rfl (by kernel_rfl) (by kernel_rfl) 28 #[.pointer (Option.some ⟨w10.heap.size, 0, none⟩), .int .i64 0] (by go_simp) _ (call_val (cSz w14 hS14)) ?_
                rintro v w15 ⟨rfl, rfl⟩
                refine ⟨hS14, ?_⟩
                simp only [Act.put, List.setIfInBounds_toArray, List.set_cons_zero, List.set_cons_succ]
                refine take_held 22 (by assumption) rfl (by kernel_rfl) (by kernel_rfl) (by kernel_rfl) (fun _ _ _ h => h) (by kernel_rfl) (v := ?v20) ?y20 ?r20
                case y20 => (intro u hu; go_simp; try rfl)
                simp only [Act.put, List.setIfInBounds_toArray, List.set_cons_zero, List.set_cons_succ]
                refine take_held 23 (by assumption) rfl (by kernel_rfl) (by kernel_rfl) (by kernel_rfl) (fun _ _ _ h => h) (by kernel_rfl) (v := ?v21) ?y21 ?r21
                case y21 => (intro u hu; go_simp; try rfl)
                simp only [Act.put, List.setIfInBounds_toArray, List.set_cons_zero, List.set_cons_succ]
                refine take_held 24 (by assumption) rfl (by kernel_rfl) (by kernel_rfl) (by kernel_rfl) (fun _ _ _ h => h) (by kernel_rfl) (v := ?v22) ?y22 ?r22
                case y22 => (intro u hu; go_simp; try rfl)
                simp only [Act.put, List.setIfInBounds_toArray, List.set_cons_zero, List.set_cons_succ]
                refine call_held 25 rfl (by kernel_rfl) (by kernel_rfl) 9 #[] (by go_simp) _ (call_val (awake_any w15)) ?_
                rintro v w16 ⟨rfl, b16⟩
                refine ⟨hS14.trans (b16.mono hS14.size), ?_⟩
                simp only [Act.put, List.setIfInBounds_toArray, List.set_cons_zero, List.set_cons_succ]
                have hS16 : Below w13.heap.size w13 w16 := hS14.trans (b16.mono hS14.size)
                refine take_held 26 (by assumption) rfl (by kernel_rfl) (by kernel_rfl) (by kernel_rfl) (fun _ _ _ h => h) (by kernel_rfl) (v := ?v23) ?y23 ?r23
                case y23 => (intro u hu; go_simp; try rfl)
                simp only [Act.put, List.setIfInBounds_toArray, List.set_cons_zero, List.set_cons_succ]
                refine take_held 27 (by assumption) rfl (by kernel_rfl) (by kernel_rfl) (by kernel_rfl) (fun _ _ _ h => h) (by kernel_rfl) (v := ?v24) ?y24 ?r24
                case y24 => (intro u hu; go_simp; try rfl)
                simp only [Act.put, List.setIfInBounds_toArray, List.set_cons_zero, List.set_cons_succ]
                refine done_held (by kernel_rfl) ?_ _
                go_wp2
                go_ret
                exact ⟨rfl, bcat bw13 hS16⟩
end Go.Proofs.Yteklmgbfinffdaa.Wal
