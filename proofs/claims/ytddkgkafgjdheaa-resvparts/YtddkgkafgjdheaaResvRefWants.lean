/-
  The wants, in the chapter's own words.
-/
import Derived.Test.YtddkgkafgjdheaaResvOwnWalk
import Derived.Test.YtddkgkafgjdheaaResvRefExt
namespace Go.Proofs.Ytddkgkafgjdheaa.Rs
set_option linter.unusedVariables false
set_option linter.unusedSimpArgs false
open Go Go.RowKit Go.Shelf Go.Proofs Hp
attribute [local go_sem] Oper.semAt_some

theorem infoRw : (Try.prog.info? 90).map (fun i => (i.zero, i.size, i.bytes)) = some (some (.agg #[.int .i64 0, .int .i64 0, .int .i64 0]), 3, 24) := by kernel_rfl
theorem kindRw : Kind wnL 74 90 3 24 :=
  ⟨fun _ => rfl, fun x u hu => by simp [wnL] at hu; rcases hu with rfl | rfl | rfl <;> rfl, Try.underlying74, by decide, by obtain ⟨i0, hi, hz0, hz1, hz2⟩ := info_parts infoRw; exact ⟨i0, _, hi, hz0, hz1, hz2, rfl⟩⟩
theorem lone_wn {w : World} {q : Nat} {x : Wn} (c0 : w.cell? ⟨q, 0, none⟩ = some (.int .i64 x.c)) (c1 : w.cell? ⟨q, 1, none⟩ = some (.int .i64 x.f)) (c2 : w.cell? ⟨q, 2, none⟩ = some (.int .i64 x.t)) : (Value.slice (some ⟨q, 0, none⟩) 1 1 = .slice none 0 0 ∧ [x] = []) ∨ ∃ p cap, Value.slice (some ⟨q, 0, none⟩) 1 1 = .slice (some p) [x].length cap ∧ ∀ j u, (rowL wnL [x])[j]? = some u → w.cell? (p.add j) = some u := by
  refine Or.inr ⟨⟨q, 0, none⟩, 1, rfl, fun j u hj => ?_⟩
  rw [Addr.add_lit, Nat.zero_add]
  match j with
  | 0 => cases hj; exact c0
  | 1 => cases hj; exact c1
  | 2 => cases hj; exact c2
  | j + 3 => simp [rowL, wnL] at hj
theorem add_add2 (p : Addr) (i j : Nat) : (p.add i).add j = p.add (i + j) := by
  unfold Addr.add; split <;> split <;> split <;> simp_all <;> omega
theorem InW.at {w : World} {a : Option Addr} {n cap : Nat} {ws : List Wn} (h : InW w a n cap ws) (i : Nat) (hi : i < ws.length) : ∃ p : Addr, a = some p ∧ w.cell? (p.add (i * 3)) = some (.int .i64 (ws[i]).c) ∧ w.cell? ⟨(p.add (i * 3)).block, (p.add (i * 3)).off + 1, none⟩ = some (.int .i64 (ws[i]).f) ∧ w.cell? ⟨(p.add (i * 3)).block, (p.add (i * 3)).off + 2, none⟩ = some (.int .i64 (ws[i]).t) := by
  rcases h.lay with ⟨_, e⟩ | ⟨p, c, e, hc⟩
  · rw [e] at hi; simp at hi
  · cases e
    have k : ∀ j u, (wnL ws[i])[j]? = some u → w.cell? ((p.add (i * 3)).add j) = some u := fun j u hj => by
      rw [add_add2]
      exact hc _ _ (rowL_at wnL_len ws i hi j u hj)
    refine ⟨p, rfl, ?_, ?_, ?_⟩
    · have := k 0 _ rfl; rw [add_add2, Nat.add_zero] at this; exact this
    · have := k 1 _ rfl; rw [Addr.add_succ'] at this; exact this
    · have := k 2 _ rfl; rw [Addr.add_succ'] at this; exact this
set_option maxRecDepth 100000 in
set_option maxHeartbeats 4000000 in
theorem wants_any (a : Option Addr) (n cap : Nat) (ws : List Wn) (w : World) (hin : InW w a n cap ws) (hn : n ≤ 60) : Calls Try.prog 35 #[.slice a n cap] w fun e w' => ∃ va vc, e = .returned (.slice va n vc) ∧ w'.ownsRow w.heap.size 90 3 (.slice va n vc) n (rowL wnL ws) ∧ Below w.heap.size w w' := by
  have HIN : Hid (InW w a n cap ws) := hin
  have hwn := hin.len
  subst hwn
  clear hin
  go_enter Try.func35, Try.ntmps35
  go_wp2_with fail
  go_loopw [3, 4] (fun s3 s4 wr => ∃ i : Nat, s4 = .int .i64 i ∧ i ≤ ws.length ∧ Hid (wr.ownsRow w.heap.size 90 3 s3 i (rowL wnL (ws.take i))) ∧ Hid (Below w.heap.size w wr)) (fun _ s4 _ => ws.length - (intOf s4).toNat)
  case atStart => exact ⟨0, rfl, Nat.zero_le _, World.ownsRow_nil _ _ _ _, Below.refl _ _⟩
  case round =>
    obtain ⟨i, rfl, hi, O, bw⟩ := hrel
    obtain ⟨oa, oc, eo, _⟩ := own_form O.out
    rcases Nat.lt_or_ge i ws.length with hlt | hge
    · obtain ⟨p, ea, c0, c1, c2⟩ := HIN.out.at i hlt
      subst ea
      have hlt' : (i : Int) < (ws.length : Int) := by omega
      have his : (i : Int) + 1 ≤ 1000 := by omega
      have hTk : Hid (ws.take (i + 1) = ws.take i ++ [ws[i]]) := List.take_succ_eq_append_getElem hlt
      have hln : (ws.take i).length = i := by rw [List.length_take]; omega
      obtain ⟨x, hx⟩ : ∃ x, ws[i] = x := ⟨_, rfl⟩
      rw [hx] at c0 c1 c2 hTk
      clear hx
      obtain ⟨w4, hw4⟩ : ∃ w4, wr.drew.alloc (.cells #[.int .i64 x.c, .int .i64 x.f, .int .i64 x.t] 90) = w4 := ⟨_, rfl⟩
      have b4 : Below wr.heap.size wr w4 := by rw [← hw4]; exact Below.alloc (a := wr) (w := wr.drew) ⟨rfl, rfl, rfl, Nat.le_refl _, fun _ _ => rfl⟩ (Nat.le_refl _) _
      have n4 := cell_new3 wr (.int .i64 x.c) (.int .i64 x.f) (.int .i64 x.t) 90
      rw [hw4] at n4
      have O4 : w4.ownsRow w.heap.size 90 3 (.slice oa i oc) (ws.take i).length (rowL wnL (ws.take i)) := by rw [hln, ← eo]; exact owns_go O.out b4
      have hrun := run_app kindRw O4 (lone_wn (x := x) n4.1 n4.2.1 n4.2.2) (by simp only [List.length_singleton]; omega) (by unfold maxLen; simp only [List.length_singleton]; omega) (Nat.le_trans bw.out.size b4.size)
      obtain ⟨v5, w5, hrun5, o5, g5, a5⟩ := hrun 74
      have B5 : Hid (Below w.heap.size w w5) := (bcat bw.out b4).grown g5 (Nat.le_trans bw.out.size b4.size) (fun k hk => (own_since O4 k hk).1)
      have hl5 : (ws.take i ++ [x]).length = i + 1 := by rw [List.length_append, hln]; rfl
      rw [hl5] at o5
      obtain ⟨va5, vc5, ev5, _⟩ := own_form o5
      have B4 : Below w.heap.size w w4 := bcat bw.out b4
      have Bd : Below w.heap.size w wr.drew := bw.out.drew
      have lg : (p.add (i * 3)).block < w.heap.size := World.block_lt_of_cell? _ _ c0
      have O5 : Hid (w5.ownsRow w.heap.size 90 3 v5 (i + 1) (rowL wnL (ws.take (i + 1)))) := by unfold Hid; rw [hTk.out]; exact o5
      obtain ⟨SH, hSH⟩ : ∃ S : World → Prop, S = Below w.heap.size w := ⟨_, rfl⟩
      have hS : SH wr.drew := by rw [hSH]; exact Bd
      have hS4 : SH w4 := by rw [hSH]; exact B4
      have hS5 : SH w5 := by rw [hSH]; exact B5.out
      have k0 : ∀ u, SH u → u.cell? (p.add (i * 3)) = some (.int .i64 x.c) := fun u hu => by rw [hSH] at hu; exact (hu.cell (p := (p.add (i * 3))) lg).trans c0
      have k1 : ∀ u, SH u → u.cell? ⟨(p.add (i * 3)).block, (p.add (i * 3)).off + 1, none⟩ = some (.int .i64 x.f) := fun u hu => by rw [hSH] at hu; exact (hu.cell (p := ⟨(p.add (i * 3)).block, (p.add (i * 3)).off + 1, none⟩) lg).trans c1
      have k2 : ∀ u, SH u → u.cell? ⟨(p.add (i * 3)).block, (p.add (i * 3)).off + 2, none⟩ = some (.int .i64 x.t) := fun u hu => by rw [hSH] at hu; exact (hu.cell (p := ⟨(p.add (i * 3)).block, (p.add (i * 3)).off + 2, none⟩) lg).trans c2
      rw [ev5] at hrun5 O5
      subst eo
      clear c0 c1 c2 B4 Bd o5 g5 a5 ev5 hrun hl5 hln O4
      go_wp2_with fail
      refine start_held (S := SH) 20 rfl (by kernel_rfl) (hS) ?_
      simp only [Array.replicate_succ, Array.replicate_zero, List.push_toArray, List.nil_append, List.cons_append]
      refine take_held 0 (by assumption) rfl (by kernel_rfl) (by kernel_rfl) (by kernel_rfl) (fun _ _ _ h => h) (by kernel_rfl) (v := ?v0) ?y0 ?r0
      case y0 => (intro u hu; go_simp; try rfl)
      simp only [Act.put, List.setIfInBounds_toArray, List.set_cons_zero, List.set_cons_succ]
      refine take_held 1 (by assumption) rfl (by kernel_rfl) (by kernel_rfl) (by kernel_rfl) (fun _ _ _ h => h) (by kernel_rfl) (v := ?v1) ?y1 ?r1
      case y1 => (intro u hu; go_simp; try rfl)
      simp only [Act.put, List.setIfInBounds_toArray, List.set_cons_zero, List.set_cons_succ]
      refine take_held 2 (by assumption) rfl (by kernel_rfl) (by kernel_rfl) (by kernel_rfl) (fun _ _ _ h => h) (by kernel_rfl) (v := ?v2) ?y2 ?r2
      case y2 => (intro u hu; go_simp; try rfl)
      simp only [Act.put, List.setIfInBounds_toArray, List.set_cons_zero, List.set_cons_succ]
      refine take_held 3 (by assumption) rfl (by kernel_rfl) (by kernel_rfl) (by kernel_rfl) (fun _ _ _ h => h) (by kernel_rfl) (v := ?v3) ?y3 ?r3
      case y3 => (intro u hu; go_simp; try rfl)
      simp only [Act.put, List.setIfInBounds_toArray, List.set_cons_zero, List.set_cons_succ]
      refine take_held 4 (by assumption) rfl (by kernel_rfl) (by kernel_rfl) (by kernel_rfl) (fun _ _ _ h => h) (by kernel_rfl) (v := ?v4) ?y4 ?r4
      case y4 => (intro u hu; go_simp; try rfl)
      simp only [Act.put, List.setIfInBounds_toArray, List.set_cons_zero, List.set_cons_succ]
      refine take_held 5 (by assumption) rfl (by kernel_rfl) (by kernel_rfl) (by kernel_rfl) (fun _ _ _ h => h) (by kernel_rfl) (v := ?v5) ?y5 ?r5
      case y5 => (intro u hu; have zz0 := k0 u hu; go_simp; try rfl)
      simp only [Act.put, List.setIfInBounds_toArray, List.set_cons_zero, List.set_cons_succ]
      refine take_held 6 (by assumption) rfl (by kernel_rfl) (by kernel_rfl) (by kernel_rfl) (fun _ _ _ h => h) (by kernel_rfl) (v := ?v6) ?y6 ?r6
      case y6 => (intro u hu; go_simp; try rfl)
      simp only [Act.put, List.setIfInBounds_toArray, List.set_cons_zero, List.set_cons_succ]
      refine take_held 7 (by assumption) rfl (by kernel_rfl) (by kernel_rfl) (by kernel_rfl) (fun _ _ _ h => h) (by kernel_rfl) (v := ?v7) ?y7 ?r7
      case y7 => (intro u hu; go_simp; try rfl)
      simp only [Act.put, List.setIfInBounds_toArray, List.set_cons_zero, List.set_cons_succ]
      refine take_held 8 (by assumption) rfl (by kernel_rfl) (by kernel_rfl) (by kernel_rfl) (fun _ _ _ h => h) (by kernel_rfl) (v := ?v8) ?y8 ?r8
      case y8 => (intro u hu; go_simp; try rfl)
      simp only [Act.put, List.setIfInBounds_toArray, List.set_cons_zero, List.set_cons_succ]
      refine take_held 9 (by assumption) rfl (by kernel_rfl) (by kernel_rfl) (by kernel_rfl) (fun _ _ _ h => h) (by kernel_rfl) (v := ?v9) ?y9 ?r9
      case y9 => (intro u hu; go_simp; try rfl)
      simp only [Act.put, List.setIfInBounds_toArray, List.set_cons_zero, List.set_cons_succ]
      refine take_held 10 (by assumption) rfl (by kernel_rfl) (by kernel_rfl) (by kernel_rfl) (fun _ _ _ h => h) (by kernel_rfl) (v := ?v10) ?y10 ?r10
      case y10 => (intro u hu; have zz0 := k1 u hu; go_simp; try rfl)
      simp only [Act.put, List.setIfInBounds_toArray, List.set_cons_zero, List.set_cons_succ]
      refine take_held 11 (by assumption) rfl (by kernel_rfl) (by kernel_rfl) (by kernel_rfl) (fun _ _ _ h => h) (by kernel_rfl) (v := ?v11) ?y11 ?r11
      case y11 => (intro u hu; go_simp; try rfl)
      simp only [Act.put, List.setIfInBounds_toArray, List.set_cons_zero, List.set_cons_succ]
      refine take_held 12 (by assumption) rfl (by kernel_rfl) (by kernel_rfl) (by kernel_rfl) (fun _ _ _ h => h) (by kernel_rfl) (v := ?v12) ?y12 ?r12
      case y12 => (intro u hu; go_simp; try rfl)
      simp only [Act.put, List.setIfInBounds_toArray, List.set_cons_zero, List.set_cons_succ]
      refine take_held 13 (by assumption) rfl (by kernel_rfl) (by kernel_rfl) (by kernel_rfl) (fun _ _ _ h => h) (by kernel_rfl) (v := ?v13) ?y13 ?r13
      case y13 => (intro u hu; go_simp; try rfl)
      simp only [Act.put, List.setIfInBounds_toArray, List.set_cons_zero, List.set_cons_succ]
      refine take_held 14 (by assumption) rfl (by kernel_rfl) (by kernel_rfl) (by kernel_rfl) (fun _ _ _ h => h) (by kernel_rfl) (v := ?v14) ?y14 ?r14
      case y14 => (intro u hu; go_simp; try rfl)
      simp only [Act.put, List.setIfInBounds_toArray, List.set_cons_zero, List.set_cons_succ]
      refine take_held 15 (by assumption) rfl (by kernel_rfl) (by kernel_rfl) (by kernel_rfl) (fun _ _ _ h => h) (by kernel_rfl) (v := ?v15) ?y15 ?r15
      case y15 => (intro u hu; have zz0 := k2 u hu; go_simp; try rfl)
      simp only [Act.put, List.setIfInBounds_toArray, List.set_cons_zero, List.set_cons_succ]
      refine take_held 16 (by assumption) rfl (by kernel_rfl) (by kernel_rfl) (by kernel_rfl) (fun _ _ _ h => h) (by kernel_rfl) (v := ?v16) ?y16 ?r16
      case y16 => (intro u hu; go_simp; try rfl)
      simp only [Act.put, List.setIfInBounds_toArray, List.set_cons_zero, List.set_cons_succ]
      refine wpAnyH_ready (rs := [17]) (by kernel_rfl) (by simp) (AllReadyH.cons ((nth_eq _ 17).trans rfl) ?_ AllReadyH.nil)
      intro K' hK
      refine value_in hK (by kernel_rfl) (.slice (some ⟨wr.heap.size, 0, none⟩) 1 1) (w4) (by rw [← hw4]; go_simp; try rfl) (hS4) ?_
      simp only [Act.put, List.setIfInBounds_toArray, List.set_cons_zero, List.set_cons_succ]
      refine wpAnyH_ready (rs := [18]) (by kernel_rfl) (by simp) (AllReadyH.cons ((nth_eq _ 18).trans rfl) ?_ AllReadyH.nil)
      intro K' hK
      refine value_in hK (by kernel_rfl) (.slice va5 (i + 1) vc5) (w5) (run_app_op _ _ rfl _ _ _ rfl rfl hrun5) (hS5) ?_
      simp only [Act.put, List.setIfInBounds_toArray, List.set_cons_zero, List.set_cons_succ]
      refine take_held 19 (by assumption) rfl (by kernel_rfl) (by kernel_rfl) (by kernel_rfl) (fun _ _ _ h => h) (by kernel_rfl) (v := ?v17) ?y17 ?r17
      case y17 => (intro u hu; go_simp; try rfl)
      simp only [Act.put, List.setIfInBounds_toArray, List.set_cons_zero, List.set_cons_succ]
      refine done_held (by kernel_rfl) ?_ _
      go_wp2_with fail
      go_roundw
      case measure => simp only [intOf]; omega
      case rel => exact ⟨i + 1, rfl, hlt, O5, B5⟩
    · obtain rfl : i = ws.length := by omega
      have O9 := O.out
      rw [List.take_length] at O9
      subst eo
      have HO : Hid _ := O9
      clear O9
      go_wp2
      go_ret
      exact ⟨_, _, rfl, HO.out, bw.out⟩
end Go.Proofs.Ytddkgkafgjdheaa.Rs
