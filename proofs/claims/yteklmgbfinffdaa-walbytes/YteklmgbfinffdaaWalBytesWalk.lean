/-
  WalBytes: any bytes in a file: what its records say, up to the first place where none stands; the rest is cut off, for certain.
-/
import Derived.Test.YteklmgbfinffdaaWalSaid
namespace Go.Proofs.Yteklmgbfinffdaa.Wal
set_option linter.unusedVariables false
set_option linter.unusedSimpArgs false
open Go Go.RowKit Go.Shelf Go.Proofs
open Go.Proofs.Yteklmgbfinffdaa.Disk (Row getD_in ret_int add_add DiskIs Kept St now setSt owns_row owns_same wpList_append_bytes)

set_option maxRecDepth 100000 in
set_option maxHeartbeats 1000000 in
theorem refRecords_nil (w : World) : Calls Try.prog 13 #[.slice none 0 0] w fun e w' => ∃ v, e = .returned (.tuple #[v, .int .i64 (stop 0 [] : Nat)]) ∧ Recs w.heap.size [] [] v w' ∧ Below w.heap.size w w' := by
  have hrec : Recs w.heap.size [] [] (.slice none 0 0) w := ⟨[], World.ownsRow_nil _ _ _ _, rfl, rfl, fun p hp => by cases hp⟩
  go_enter Try.func13, Try.ntmps13
  go_wp2
  go_loopw [4, 5] (fun v i wr => v = .slice none 0 0 ∧ i = .int .i64 0 ∧ wr = w) (fun _ _ _ => 0)
  case atStart => exact ⟨rfl, rfl, rfl⟩
  case round =>
    obtain ⟨rfl, rfl, hw⟩ := hrel
    rw [hw]
    go_wp2
    refine bodyPost_ret (results_tmp2 rfl _ _ _) rfl ?_
    exact ⟨_, rfl, hrec, Below.refl _ _⟩
theorem refRecords_all (a : Option Addr) (len cap : Nat) (zs : List Int) (ns : List Nat) (w : World) (hr : Row w a len zs) (hd : Done zs ns) (h0 : a = none → len = 0 ∧ cap = 0) (hlc : len ≤ cap) (hcb : cap ≤ 9223372036854775807) (hlen : len ≤ 100000) :
    Calls Try.prog 13 #[.slice a len cap] w fun e w' => ∃ v, e = .returned (.tuple #[v, .int .i64 (stop 0 ns : Nat)]) ∧ Recs w.heap.size zs ns v w' ∧ Below w.heap.size w w' := by
  cases a with
  | some x => exact refRecords_any x len cap zs ns w hr hd hlc hcb hlen
  | none =>
    obtain ⟨rfl, rfl⟩ := h0 rfl
    obtain rfl : zs = [] := List.eq_nil_of_length_eq_zero hr.len
    obtain rfl : ns = [] := done_one hd ⟨trivial, rfl⟩
    exact refRecords_nil w
theorem app_one (bs : List Int) (h : bs.length ≤ 16777216) : Disk.appErr σ0 1 bs.length = 0 ∧ Disk.appSt σ0 1 bs = logSt 1 [] bs := by
  have e : Disk.appErr σ0 1 bs.length = 0 := by
    unfold Disk.appErr
    rw [Disk.isFile_yes (.inr rfl), if_pos rfl]
    show (if 16777216 < (now σ0 1).length + bs.length then (2 : Int) else 0) = 0
    have : (now σ0 1).length = 0 := rfl
    rw [if_neg (by omega)]
  refine ⟨e, ?_⟩
  unfold Disk.appSt
  rw [e, if_pos rfl]
  rfl
theorem openSt_now' (σ : St) (i e : Nat) (he : e ≤ (now σ i).length) : now (openSt σ i e) i = (now σ i).take e := by
  unfold openSt
  split
  · rw [now_sync]
  · rw [List.take_of_length_le (by omega)]
theorem openSt_sure (σ : St) (i e : Nat) (he : e < (now σ i).length) : (openSt σ i e i).2.length = 0 := by
  unfold openSt
  rw [if_pos he, setSt_at]
  rfl

theorem Recs.keep {B : Nat} {zs : List Int} {ms : List Nat} {v : Value} {w w' : World} (h : Recs B zs ms v w) (hk : ∀ k, B ≤ k → k < w.heap.size → w'.heap[k]? = w.heap[k]?) : Recs B zs ms v w' := by
  obtain ⟨ps, ho, h1, h2, hf⟩ := h.ex
  have key : ∀ {e : TypeId} {size : Nat} {u : Value} {n : Nat} {xs : List Value}, w.ownsRow B e size u n xs → w'.ownsRow B e size u n xs := fun {e size u n xs} hu => owns_same hu (fun k hkk => by
    rcases hu.2 with ⟨e', _⟩ | ⟨g, cap, cur, e', hb, hg, _⟩
    · rw [e'] at hkk; cases hkk
    · rw [e'] at hkk; cases hkk; exact hk g hb (Array.getElem?_eq_some_iff.1 hg).1)
  exact ⟨ps, key ho, h1, h2, fun p hp => ⟨key (hf p hp).own, (hf p hp).small⟩⟩
theorem said_step (B N : Nat) (zs : List Int) (ns : List Nat) (v : Value) (w : World) (hrec : Recs B zs ns v w) (hN : ns.length = N) (hn : N ≤ 100000) (hzl : zs.length ≤ 100000) :
    Calls Try.prog 16 #[v] w fun e w' => ∃ u, e = .returned u ∧ ∃ a' cap' qs, u = .slice a' N cap' ∧ Texts w' a' N qs ∧ qs.map Piece.zs = says zs 0 ns ∧ Below w.heap.size w w' := by
  subst hN
  exact (said_any B zs ns v w hrec hn hzl).mono fun e w' ⟨a', cap', qs, he, h⟩ => ⟨_, he, a', cap', qs, rfl, h⟩
theorem read_step {W w : World} {own : Owns} {D : Nat} {σ : St} {m : Nat} (h : Live W w own D σ m) (hm : m < 4194304) (i : Nat) (hi : i < 2) (zs : List Int) (n : Nat) (hz : now σ i = zs) (hn : zs.length = n) :
    Calls Try.prog 18 #[.pointer (Option.some ⟨D, 0, none⟩), .int .i64 i] w fun e w' => ∃ v, e = .returned v ∧ ∃ a' cap', v = .slice a' n cap' ∧ Row w' a' n zs ∧ Below w.heap.size w w' :=
  (read_live h hm i hi zs n hz hn).mono fun e w' ⟨a', cap', he, _, hr, _, hb⟩ => ⟨_, he, a', cap', rfl, hr, hb⟩

set_option maxRecDepth 100000 in
set_option maxHeartbeats 3000000 in
theorem bytes_all (a : Option Addr) (len cap : Nat) (zs : List Int) (w : World) (hr : Row w a len zs) (h0 : a = none → len = 0 ∧ cap = 0) (hlc : len ≤ cap) (hcb : cap ≤ 9223372036854775807) :
    Calls Try.prog 3 #[.slice a len cap] w fun e w' => e = .returned (.bool true) ∧ Below w.heap.size w w' := by
  have hl := hr.len
  by_cases hbig : 100000 < len
  · have t0 : (100000 : Int) < (len : Int) := by omega
    go_enter Try.func3, Try.ntmps3
    go_wp2_with (first
      | (go_at_call 9; refine (awake_any w1).mono ?_; rintro e w2 ⟨rfl, b2⟩)
      | (go_at_call 9; refine (awake_any w).mono ?_; rintro e w1 ⟨rfl, b1⟩))
    go_ret
    exact ⟨rfl, bcat b1 b2⟩
  · have t0 : ¬ ((100000 : Int) < (len : Int)) := by omega
    obtain ⟨ns, hd⟩ := done_any zs
    have hE := hd.le
    have hcnt := stop_count ns 0
    obtain ⟨ez, est⟩ := app_one zs (by omega)
    rw [hl] at ez
    have hnow : now (logSt 1 [] zs) 1 = zs := by rw [logSt_now]; rfl
    have cR := fun (u : World) (hu : Below w.heap.size w u) => refRecords_all a len cap zs ns u (hr.after hu) hd h0 hlc hcb (by omega)
    have cO := fun (w1 u : World) (own : Owns) (D : Nat) (h : Live w1 u own D (logSt 1 [] zs) 1) => open_any h (by decide) 1 (by decide) zs hnow ns hd
    have hYn := openSt_now' (logSt 1 [] zs) 1 (stop 0 ns) (by rw [hnow]; omega)
    rw [hnow] at hYn
    have hYs := openSt_sure (logSt 1 [] zs) 1 (stop 0 ns)
    rw [hnow, hl] at hYs
    obtain ⟨σY, hσY⟩ : ∃ σ, openSt (logSt 1 [] zs) 1 (stop 0 ns) = σ := ⟨_, rfl⟩
    rw [hσY] at hYn hYs
    simp only [hσY] at cO
    obtain ⟨e0, he0⟩ : ∃ e, stop 0 ns = e := ⟨_, rfl⟩
    simp only [he0] at cR
    rw [he0] at hE hYn hYs hcnt
    have hYl : (now σY 1).length = e0 := by rw [hYn, List.length_take]; omega
    obtain ⟨N, hN⟩ : ∃ N, ns.length = N := ⟨_, rfl⟩
    simp only [hN] at cO
    have rH := fun (u : World) (hu : Below w.heap.size w u) => (hr.after hu).head e0 (by omega)
    go_enter Try.func3, Try.ntmps3
    go_wp2_with (first
      | (go_at_call 14; refine (cO w1 w5 own4 w1.heap.size (h4.later b5)).mono ?_; rintro e w6 ⟨own6, L, taY, tcY, psY, rfl, h6, f6, lg6, t6, hp6⟩)
      | (go_at_call 13; refine (cR w4 (bcat b1 h4.below)).mono ?_; rintro e w5 ⟨v5, rfl, rec5, b5⟩)
      | (go_at_call 11; refine (Disk.append_any w1.heap.size w3 own2 σ0 0 (h2.later b3).disk (by decide) 1 _ len c3 zs r3 n3 (by omega)).mono ?_; rintro e w4 ⟨rfl, gg4⟩; obtain ⟨own4, h4, f4⟩ := (h2.later b3).goes gg4; rw [est] at h4; rw [ez])
      | (go_at_call 12; refine (Disk.copy_any a len cap zs w2 (hr.after (bcat b1 h2.below)) (by omega) h0).mono ?_; rintro e w3 ⟨a3, c3, rfl, r3, o3, b3⟩; have n3 := fun h => ((Disk.owns_form o3).1 h).2)
      | (go_at_call 10; refine (live_new w1 w1 (Below.refl _ _)).mono ?_; rintro e w2 ⟨rfl, ⟨own2, h2⟩, b2⟩)
      | (go_at_call 9; refine (awake_any w).mono ?_; rintro e w1 ⟨rfl, b1⟩))
    have bw6 : Below w.heap.size w w6 := bcat b1 h6.below
    obtain ⟨va, vc, hv5⟩ : ∃ va vc, v5 = .slice va N vc := by
      obtain ⟨ps, ho, _⟩ := rec5.ex
      rw [hN] at ho
      exact owns_slice ho
    have rec6 := rec5.keep (w' := w6) (fun k hk hlt => ((h4.free hk hlt).go f6).2)
    rw [hv5] at rec6 ⊢
    have hrec6 : ∀ u, Below w6.heap.size w6 u → Recs w4.heap.size zs ns (.slice va N vc) u := fun u hu => rec6.keep (fun k _ hlt => hu.block k hlt)
    clear hv5
    have hS : Below w6.heap.size w6 w6.drew := (Below.refl _ _).drew
    obtain ⟨S, hSS⟩ : ∃ S, strOfNums (zs.take e0) = S := ⟨_, rfl⟩
    have sB : ∀ u, Below w6.heap.size w6 u → (convert 22 9 (.slice a e0 cap)).run Try.prog u = .ok (.string S) u := fun u hu => by rw [← hSS]; exact Disk.conv_row (rH u (bcat bw6 hu)) _
    have hlT : (zs.take e0).length = e0 := by rw [List.length_take]; omega
    have tcap : (e0 : Int) ≤ (cap : Int) := by omega
    have cSame := fun (u : World) (hu : Below w6.heap.size w6 u) (a' : Option Addr) (c' : Nat) (qs : List Piece) (hq : Texts u a' N qs) (hz : qs.map Piece.zs = says zs 0 ns) => same_any taY a' N tcY N c' psY qs u (t6.toTexts.after hu) hq (by omega) (by omega)
    refine start_held (S := fun u => Below w6.heap.size w6 u) 29 rfl (by kernel_rfl) (hS) ?_
    simp only [Array.replicate_succ, Array.replicate_zero, List.push_toArray, List.nil_append, List.cons_append]
    refine take_held 0 (by assumption) rfl (by kernel_rfl) (by kernel_rfl) (by kernel_rfl) (fun _ _ _ h => h) (by kernel_rfl) (v := ?v0) ?y0 ?r0
    case y0 => (intro u hu; go_simp; try rfl)
    simp only [Act.put, List.setIfInBounds_toArray, List.set_cons_zero, List.set_cons_succ]
    refine take_held 1 (by assumption) rfl (by kernel_rfl) (by kernel_rfl) (by kernel_rfl) (fun _ _ _ h => h) (by kernel_rfl) (v := ?v1) ?y1 ?r1
    case y1 => (intro u hu; go_simp; try rfl)
    simp only [Act.put, List.setIfInBounds_toArray, List.set_cons_zero, List.set_cons_succ]
    refine take_held 2 (by assumption) rfl (by kernel_rfl) (by kernel_rfl) (by kernel_rfl) (fun _ _ _ h => h) (by kernel_rfl) (v := ?v2) ?y2 ?r2
    case y2 => (intro u hu; go_simp; try rfl)
    simp only [Act.put, List.setIfInBounds_toArray, List.set_cons_zero, List.set_cons_succ]
    refine take_held 3 (by assumption) rfl (by kernel_rfl) (by kernel_rfl) (by kernel_rfl) (fun _ _ _ h => h) (by kernel_rfl) (v := ?v3) ?y3 ?r3
    case y3 => (intro u hu; go_simp; try rfl)
    simp only [Act.put, List.setIfInBounds_toArray, List.set_cons_zero, List.set_cons_succ]
    refine take_held 4 (by assumption) rfl (by kernel_rfl) (by kernel_rfl) (by kernel_rfl) (fun _ _ _ h => h) (by kernel_rfl) (v := ?v4) ?y4 ?r4
    case y4 => (intro u hu; go_simp; try rfl)
    simp only [Act.put, List.setIfInBounds_toArray, List.set_cons_zero, List.set_cons_succ]
    refine take_held 5 (by assumption) rfl (by kernel_rfl) (by kernel_rfl) (by kernel_rfl) (fun _ _ _ h => h) (by kernel_rfl) (v := ?v5) ?y5 ?r5
    case y5 => (intro u hu; go_simp; try rfl)
    simp only [Act.put, List.setIfInBounds_toArray, List.set_cons_zero, List.set_cons_succ]
    refine take_held 6 (by assumption) rfl (by kernel_rfl) (by kernel_rfl) (by kernel_rfl) (fun _ _ _ h => h) (by kernel_rfl) (v := ?v6) ?y6 ?r6
    case y6 => (intro u hu; go_simp; try rfl)
    simp only [Act.put, List.setIfInBounds_toArray, List.set_cons_zero, List.set_cons_succ]
    refine take_held 7 (by assumption) rfl (by kernel_rfl) (by kernel_rfl) (by kernel_rfl) (fun _ _ _ h => h) (by kernel_rfl) (v := ?v7) ?y7 ?r7
    case y7 => (intro u hu; go_simp; try rfl)
    simp only [Act.put, List.setIfInBounds_toArray, List.set_cons_zero, List.set_cons_succ]
    refine take_held 8 (by assumption) rfl (by kernel_rfl) (by kernel_rfl) (by kernel_rfl) (fun _ _ _ h => h) (by kernel_rfl) (v := ?v8) ?y8 ?r8
    case y8 => (intro u hu; go_simp; try rfl)
    simp only [Act.put, List.setIfInBounds_toArray, List.set_cons_zero, List.set_cons_succ]
    refine call_held 9 rfl (by kernel_rfl) (by kernel_rfl) 16 #[.slice va N vc] (by go_simp) _ (said_step w4.heap.size N zs ns _ w6.drew (hrec6 _ hS) hN (by omega) (by omega)) ?_
    rintro v w7 ⟨a7, c7, qs, rfl, T7, hq7, b7⟩
    refine ⟨hS.trans (b7.mono hS.size), ?_⟩
    simp only [Act.put, List.setIfInBounds_toArray, List.set_cons_zero, List.set_cons_succ]
    have hS7 : Below w6.heap.size w6 w7 := hS.trans (b7.mono hS.size)
    have cSm := cSame w7 hS7 a7 c7 qs T7 hq7
    rw [decide_eq_true (hp6.trans hq7.symm)] at cSm
    refine call_held 10 rfl (by kernel_rfl) (by kernel_rfl) 15 #[.slice taY N tcY, .slice a7 N c7] (by go_simp) _ (call_val cSm) ?_
    rintro v w8 ⟨rfl, b8⟩
    refine ⟨hS7.trans (b8.mono hS7.size), ?_⟩
    simp only [Act.put, List.setIfInBounds_toArray, List.set_cons_zero, List.set_cons_succ]
    have hS8 : Below w6.heap.size w6 w8 := hS7.trans (b8.mono hS7.size)
    refine take_held 11 (by assumption) rfl (by kernel_rfl) (by kernel_rfl) (by kernel_rfl) (fun _ _ _ h => h) (by kernel_rfl) (v := ?v9) ?y9 ?r9
    case y9 => (intro u hu; go_simp; try rfl)
    simp only [Act.put, List.setIfInBounds_toArray, List.set_cons_zero, List.set_cons_succ]
    refine take_held 12 (by assumption) rfl (by kernel_rfl) (by kernel_rfl) (by kernel_rfl) (fun _ _ _ h => h) (by kernel_rfl) (v := ?v10) ?y10 ?r10
    case y10 => (intro u hu; go_simp; try rfl)
    simp only [Act.put, List.setIfInBounds_toArray, List.set_cons_zero, List.set_cons_succ]
    refine take_held 13 (by assumption) rfl (by kernel_rfl) (by kernel_rfl) (by kernel_rfl) (fun _ _ _ h => h) (by kernel_rfl) (v := ?v11) ?y11 ?r11
    case y11 => (intro u hu; go_simp; try rfl)
    simp only [Act.put, List.setIfInBounds_toArray, List.set_cons_zero, List.set_cons_succ]
    refine take_held 14 (by assumption) rfl (by kernel_rfl) (by kernel_rfl) (by kernel_rfl) (fun _ _ _ h => h) (by kernel_rfl) (v := ?v12) ?y12 ?r12
    case y12 => (intro u hu; go_simp; try rfl)
    simp only [Act.put, List.setIfInBounds_toArray, List.set_cons_zero, List.set_cons_succ]
    refine take_held 16 (by assumption) rfl (by kernel_rfl) (by kernel_rfl) (by kernel_rfl) (fun _ _ _ h => h) (by kernel_rfl) (v := ?v13) ?y13 ?r13
    case y13 => (intro u hu; go_simp; try rfl)
    simp only [Act.put, List.setIfInBounds_toArray, List.set_cons_zero, List.set_cons_succ]
    have cSz := size_any (h6.later hS8) (by decide) (lg6.go (Fr.below hS8)) (by decide)
    rw [hYl] at cSz
    refine call_held 15 rfl (by kernel_rfl) (by kernel_rfl) 17 #[.pointer (Option.some ⟨L, 0, none⟩)] (by go_simp) _ (call_val cSz) ?_
    rintro v w9 ⟨rfl, b9⟩
    refine ⟨hS8.trans (b9.mono hS8.size), ?_⟩
    simp only [Act.put, List.setIfInBounds_toArray, List.set_cons_zero, List.set_cons_succ]
    have hS9 : Below w6.heap.size w6 w9 := hS8.trans (b9.mono hS8.size)
    refine take_held 17 (by assumption) rfl (by kernel_rfl) (by kernel_rfl) (by kernel_rfl) (fun _ _ _ h => h) (by kernel_rfl) (v := ?v14) ?y14 ?r14
    case y14 => (intro u hu; go_simp; try rfl)
    simp only [Act.put, List.setIfInBounds_toArray, List.set_cons_zero, List.set_cons_succ]
    refine take_held 18 (by assumption) rfl (by kernel_rfl) (by kernel_rfl) (by kernel_rfl) (fun _ _ _ h => h) (by kernel_rfl) (v := ?v15) ?y15 ?r15
    case y15 => (intro u hu; go_simp; try rfl)
    simp only [Act.put, List.setIfInBounds_toArray, List.set_cons_zero, List.set_cons_succ]
    refine take_held 19 (by assumption) rfl (by kernel_rfl) (by kernel_rfl) (by kernel_rfl) (fun _ _ _ h => h) (by kernel_rfl) (v := ?v16) ?y16 ?r16
    case y16 => (intro u hu; go_simp; try rfl)
    simp only [Act.put, List.setIfInBounds_toArray, List.set_cons_zero, List.set_cons_succ]
    refine take_held 20 (by assumption) rfl (by kernel_rfl) (by kernel_rfl) (by kernel_rfl) (fun _ _ _ h => h) (by kernel_rfl) (v := ?v17) ?y17 ?r17
    case y17 => (intro u hu; go_simp; try rfl)
    simp only [Act.put, List.setIfInBounds_toArray, List.set_cons_zero, List.set_cons_succ]
    refine take_held 23 (by assumption) rfl (by kernel_rfl) (by kernel_rfl) (by kernel_rfl) (fun _ _ _ h => h) (by kernel_rfl) (v := ?v18) ?y18 ?r18
    case y18 => (intro u hu; go_simp; try rfl)
    simp only [Act.put, List.setIfInBounds_toArray, List.set_cons_zero, List.set_cons_succ]
    refine take_held 24 (by assumption) rfl (by kernel_rfl) (by kernel_rfl) (by kernel_rfl) (fun _ _ _ h => h) (by kernel_rfl) (v := ?v19) ?y19 ?r19
    case y19 => (intro u hu; go_simp; try rfl)
    simp only [Act.put, List.setIfInBounds_toArray, List.set_cons_zero, List.set_cons_succ]
    refine take_held 25 (by assumption) rfl (by kernel_rfl) (by kernel_rfl) (by kernel_rfl) (fun _ _ _ h => h) (by kernel_rfl) (v := ?v20) ?y20 ?r20
    case y20 => (intro u hu; go_simp; try rfl)
    simp only [Act.put, List.setIfInBounds_toArray, List.set_cons_zero, List.set_cons_succ]
    refine take_held 26 (by assumption) rfl (by kernel_rfl) (by kernel_rfl) (by kernel_rfl) (fun _ _ _ h => h) (by kernel_rfl) (v := ?v21) ?y21 ?r21
    case y21 => (intro u hu; have := sB u hu; go_simp; try rfl)
    simp only [Act.put, List.setIfInBounds_toArray, List.set_cons_zero, List.set_cons_succ]
    refine call_held 21 rfl (by kernel_rfl) (by kernel_rfl) 18 #[.pointer (Option.some ⟨w1.heap.size, 0, none⟩), .int .i64 1] (by go_simp) _ (read_step (h6.later hS9) (by decide) 1 (by decide) (zs.take e0) e0 hYn hlT) ?_
    rintro v w10 ⟨a10, c10, rfl, r10, b10⟩
    refine ⟨hS9.trans (b10.mono hS9.size), ?_⟩
    simp only [Act.put, List.setIfInBounds_toArray, List.set_cons_zero, List.set_cons_succ]
    have hS10 : Below w6.heap.size w6 w10 := hS9.trans (b10.mono hS9.size)
    have k10 := Disk.conv_row r10 c10
    rw [hSS] at k10
    refine read_held 22 rfl (by kernel_rfl) (by kernel_rfl) (.string S) (by go_simp) (by assumption) ?_
    simp only [Act.put, List.setIfInBounds_toArray, List.set_cons_zero, List.set_cons_succ]
    refine take_held 27 (by assumption) rfl (by kernel_rfl) (by kernel_rfl) (by kernel_rfl) (fun _ _ _ h => h) (by kernel_rfl) (v := ?v22) ?y22 ?r22
    case y22 => (intro u hu; go_simp; try rfl)
    simp only [Act.put, List.setIfInBounds_toArray, List.set_cons_zero, List.set_cons_succ]
    refine take_held 28 (by assumption) rfl (by kernel_rfl) (by kernel_rfl) (by kernel_rfl) (fun _ _ _ h => h) (by kernel_rfl) (v := ?v23) ?y23 ?r23
    case y23 => (intro u hu; go_simp; try rfl)
    simp only [Act.put, List.setIfInBounds_toArray, List.set_cons_zero, List.set_cons_succ]
    refine done_held (by kernel_rfl) ?_ _
    by_cases hel : e0 = len
    · subst hel
      go_wp2
      go_ret
      exact ⟨rfl, bcat bw6 hS10⟩
    · have x0 : ((e0 : Int) == (len : Int)) = false := by rw [beq_eq_false_iff_ne]; omega
      have hp0 := hYs (by omega)
      go_wp2_with (go_at_call 19; refine (pending_live (h6.later hS10) 1 (by decide) 0 hp0).mono ?_; rintro e w11 ⟨rfl, hw11⟩; rw [hw11])
      go_ret
      exact ⟨rfl, bcat bw6 hS10⟩
end Go.Proofs.Yteklmgbfinffdaa.Wal
