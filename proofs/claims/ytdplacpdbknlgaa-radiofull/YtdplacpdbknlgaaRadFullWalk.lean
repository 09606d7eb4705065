/-
  At most 1024 telegrams are under way.
-/
import Derived.Test.YtdplacpdbknlgaaRadLaw
import Derived.Laws.OwnMore
namespace Go.Proofs.Ytdplacpdbknlgaa.Lk
set_option linter.unusedVariables false
set_option linter.unusedSimpArgs false
open Go Go.RowKit Go.Shelf Go.Proofs
attribute [local go_sem] Oper.semAt_some

def numsL (a k : Nat) : List Tl := (List.range k).map fun j => tlG 0 0 0 (((a + j : Nat) : Int))
theorem numsL_len (a k : Nat) : (numsL a k).length = k := by simp [numsL]
theorem numsL_succ (a k : Nat) : numsL a (k + 1) = numsL a k ++ [tlG 0 0 0 (((a + k : Nat) : Int))] := by
  unfold numsL
  rw [List.range_succ, List.map_append]
  rfl
theorem numsL_at (a : Nat) {k j : Nat} (h : j < k) : (numsL a k)[j]? = some (tlG 0 0 0 (((a + j : Nat) : Int))) := by
  unfold numsL
  rw [List.getElem?_map, List.getElem?_range h]
  rfl
theorem tls_of_zeros : ∀ (n : Nat), rowL tlL (List.replicate n tl0) = (madeCells (tlA tl0) (n * 19)).toList := by
  intro n
  apply List.ext_getElem?
  intro j
  by_cases hj : j < n * 19
  · have e1 : (madeCells (tlA tl0) (n * 19)).toList[j]? = (tlA tl0)[j % 19]? := by
      have hz : (tlA tl0).size = 19 := rfl
      have hm : j % 19 < 19 := Nat.mod_lt _ (by decide)
      simp [madeCells, hj, hz, hm]
    rw [e1]
    have h1 : j / 19 < (List.replicate n tl0).length := by simp; omega
    have hm : j % 19 < (tlL tl0).length := Nat.mod_lt _ (by decide)
    have := rowL_at tlL_len (List.replicate n tl0) (j / 19) h1 (j % 19) ((tlL tl0)[j % 19]'hm) (by simp)
    rw [show j / 19 * 19 + j % 19 = j by omega] at this
    rw [this]
    unfold tlA
    simp [List.getElem?_eq_getElem hm]
  · rw [List.getElem?_eq_none (by rw [rowTl_len]; simp; omega), List.getElem?_eq_none (by simp [madeCells]; omega)]
theorem run_zeros (n : Nat) (hn : n ≤ 100) (w : World) : ∃ w', (Instr.makeSlice 27 (.int .i64 n) (.int .i64 n)).run Try.prog w = .ok (.slice (some ⟨w.heap.size, 0, none⟩) n n) w' ∧ Own w' w.heap.size (.slice (some ⟨w.heap.size, 0, none⟩) n n) (List.replicate n tl0) ∧ Below w.heap.size w w' := by
  obtain ⟨i, hi, hz0, hz1, hz2⟩ := infoT19
  obtain ⟨w', h1, h2, h3⟩ := run_make_full (P := Try.prog) w w.heap.size 27 42 i _ 19 Try.underlying27 hi hz0 hz1 .i64 .i64 n (by rw [hz2]; omega) (by unfold maxLen; omega) (Nat.le_refl _)
  refine ⟨w', h1, ?_, ⟨h3.os, h3.tape, h3.output, h3.size, fun k hk => h3.block k hk (by simp)⟩⟩
  unfold Own
  rw [List.length_replicate, tls_of_zeros]
  exact h2
theorem run_makeT {o : Oper} {a : Act} {w w' : World} (x y : Operand) (ho : o.op = .makeSlice 27 x y) (v1 v2 v : Value) (hx : a.eval x = v1) (hy : a.eval y = v2) (hr : (Instr.makeSlice 27 v1 v2).run Try.prog w = .ok v w') : (execOp a.eval o).run Try.prog w = .ok (.value v) w' := by
  unfold execOp
  simp only [ho, hx, hy, Sem.run_bind, hr, Result.andThen_ok, Sem.run_pure]
set_option maxRecDepth 100000 in
set_option maxHeartbeats 4000000 in
theorem full_all (n0 m0 : Int) (w : World) : Calls Try.prog 4 #[.int .i64 n0, .int .i64 m0] w fun e w' => e = .returned (.bool true) ∧ Below w.heap.size w w' := by
  have cN := fun w => place_any n0 7 w (by decide) (by decide)
  have pN := place_bd n0 7 (by decide)
  have cM := fun w => place_any m0 5 w (by decide) (by decide)
  have pM := place_bd m0 5 (by decide)
  obtain ⟨pn, hpn⟩ : ∃ pn : Nat, place n0 7 = (pn : Int) := ⟨(place n0 7).toNat, by omega⟩
  obtain ⟨m, hpm⟩ : ∃ m : Nat, place m0 5 = (m : Int) := ⟨(place m0 5).toNat, by omega⟩
  rw [hpn] at cN pN
  rw [hpm] at cM pM
  clear hpn hpm
  obtain ⟨n, hn⟩ : ∃ n : Nat, n = 1021 + pn := ⟨_, rfl⟩
  have hn1 : (1021 : Int) + (pn : Int) = (n : Int) := by omega
  have hb : n ≤ 1027 ∧ 1021 ≤ n ∧ m ≤ 4 := by omega
  have n1 := radNew_any w
  obtain ⟨B, hB⟩ : ∃ B, w.heap.size = B := ⟨_, rfl⟩
  rw [hB] at n1 ⊢
  have HX : Hid (w.heap.size = B) := hB
  have HN1 : Hid ((1021 : Int) + (pn : Int) = (n : Int)) := hn1
  have hb1 := hb.1
  have hb2 := hb.2.1
  have hb3 := hb.2.2
  clear hB hn hb hn1
  go_enter Try.func4, Try.ntmps4
  go_wp2_with (first
    | (have X' := n1; go_at_call 9; refine n1.mono ?_; rintro e x1 ⟨rfl, G1, b1⟩; clear n1)
    | (have X' := cN; go_at_call 10; refine (cN _).mono ?_; rintro e yw ⟨rfl, hyw⟩; rw [hyw]; clear hyw cN)
    | (go_at_call 10; refine (cM _).mono ?_; rintro e yw ⟨rfl, hyw⟩; rw [hyw]; clear hyw cM))
  rw [HN1.out]
  go_loopw [6, 7] (fun ck ci wr => ∃ (i k : Nat) (v : Value), ck = .int .i64 k ∧ ci = .int .i64 i ∧ i ≤ n ∧ k = min i 1024 ∧ RdAt 57 B wr B v (numsL 0 k) ∧ Below B w wr) (fun _ ci _ => n - (intOf ci).toNat)
  case atStart => exact ⟨0, 0, _, rfl, rfl, Nat.zero_le _, rfl, G1, b1⟩
  case round =>
    clear G1 b1
    obtain ⟨i, k, v, rfl, rfl, hi, hk, G, bw⟩ := hrel
    by_cases hlt : i < n
    · have h3 : (i : Int) < (n : Int) := by omega
      obtain ⟨w1, hw1⟩ : ∃ w1, wr.alloc (.cells (tlA (tlG 0 0 0 i)) 42) = w1 := ⟨_, rfl⟩
      have bb : Below wr.heap.size wr w1 := by rw [← hw1]; exact (Below.refl _ _).alloc (Nat.le_refl _) _
      have O1 := own_single (tlG 0 0 0 i) wr
      rw [hw1] at O1
      have G1 := G.go bb
      have bw1 : Below B w w1 := bw.trans (bb.mono (by have := bw.size; have := HX.out; omega))
      have cs := send_case G1 (Lies.of_own O1) (by simp) (if i < 1024 then 1 else 0) (by rw [numsL_len, hk]; split <;> simp <;> omega)
      have HK : Hid (∀ {w2 : World} {v2 : Value}, RdAt 57 B w2 B v2 (numsL 0 k ++ [tlG 0 0 0 i].take (if i < 1024 then 1 else 0)) → Tn w1 w2 B v v2 → RdAt 57 B w2 B v2 (numsL 0 (k + if i < 1024 then 1 else 0)) ∧ Below B w w2) := by
        intro w2 v2 G2 t2
        refine ⟨?_, t2.below G1 bw1⟩
        by_cases hc : i < 1024
        · rw [if_pos hc] at G2 ⊢
          rw [numsL_succ]
          rw [show k = i by omega] at G2 ⊢
          simpa using G2
        · rw [if_neg hc] at G2 ⊢
          simpa using G2
      have HMm : Hid (k + (if i < 1024 then 1 else 0) = min (i + 1) 1024) := by
        show _ = _
        split <;> omega
      have hkb : (k : Int) ≤ 1024 := by omega
      have hd1 : (((if i < 1024 then 1 else 0 : Nat)) : Int) ≤ 1 := by split <;> simp
      generalize (if i < 1024 then 1 else 0) = d at *
      clear G bw bb O1 G1 bw1 hk
      go_wp2_with (first
        | (refine wpList_buildAs rfl 42 _ rfl (tlA (tlG 0 0 0 i)) _ rfl (builtNum i) ?_)
        | (refine wpList_one rfl (.tmp 26) rfl (tlG 0 0 0 i) rfl ?_; rw [hw1])
        | (go_at_call 11; refine cs.mono ?_; rintro e w2 ⟨rfl, v2, G2, t2⟩; obtain ⟨G3, b3⟩ := HK.out G2 t2; clear cs G2 t2))
      go_roundw
      case rel => exact ⟨i + 1, k + d, v2, by go_num, by go_num, by omega, HMm.out, G3, b3⟩
      case measure => simp [intOf]; omega
    · have h3 : ¬ (i : Int) < (n : Int) := by omega
      obtain rfl : i = n := by omega
      clear hi hlt
      have hk1 : k ≤ 1024 := by omega
      have hk2 : 1021 ≤ k := by omega
      obtain ⟨e, he⟩ : ∃ e, e = min m (1024 - k) := ⟨_, rfl⟩
      have hmin1 : (if (1024 : Int) < (i : Int) then (1024 : Int) else (i : Int)) = (k : Int) := by split <;> omega
      have HNL : Hid ((numsL 0 k).length = k) := numsL_len 0 k
      have hmin2 : (if (1024 : Int) - (k : Int) < (m : Int) then (1024 : Int) - (k : Int) else (m : Int)) = (e : Int) := by split <;> omega
      obtain ⟨w2, hr2, O2, b2⟩ := run_zeros m (by omega) wr
      have G2 := G.go b2
      have cs := send_case G2 (Lies.of_own O2) (by simp; omega) e (by rw [numsL_len, List.length_replicate, he])
      have cl := radLen_any G
      rw [numsL_len] at cl
      have bw2 : Below B w w2 := bw.trans (b2.mono (by have := bw.size; have := HX.out; omega))
      have HE : Hid (∀ {w3 : World} {v3 : Value}, RdAt 57 B w3 B v3 (numsL 0 k ++ (List.replicate m tl0).take e) → Tn w2 w3 B v v3 → Below B w w3 ∧ Calls Try.prog 13 #[.pointer (some ⟨B, 0, none⟩), .int .i64 ((k : Int) - 1), .bool false] w3 fun e w' => e = .returned (.tuple #[.agg (tlA (tlG 0 0 0 ((k : Int) - 1))), .bool true]) ∧ Below B w w') := by
        intro w3 v3 G3 t3
        have b3 := t3.below G2 bw2
        refine ⟨b3, ?_⟩
        have hl3 : (numsL 0 k ++ (List.replicate m tl0).take e).length = k + e := by
          rw [List.length_append, numsL_len, List.length_take, List.length_replicate]
          omega
        have hp : plN ((k : Int) - 1) (k + e) = k - 1 := by
          unfold plN place
          rw [Int.tmod_eq_emod_of_nonneg (by omega), Int.emod_eq_of_lt (by omega) (by omega), if_neg (by omega)]
          omega
        have ht : (numsL 0 k ++ (List.replicate m tl0).take e)[plN ((k : Int) - 1) (numsL 0 k ++ (List.replicate m tl0).take e).length]? = some (tlG 0 0 0 ((k : Int) - 1)) := by
          rw [hl3, hp, List.getElem?_append_left (by rw [numsL_len]; omega), numsL_at 0 (by omega), show (((0 + (k - 1) : Nat)) : Int) = (k : Int) - 1 by omega]
        refine (radHear_any G3 ((k : Int) - 1) false _ ht).mono ?_
        rintro e w4 ⟨rfl, v4, G4, t4⟩
        exact ⟨rfl, t4.below G3 b3⟩
      clear G he bw bw2 O2 b2 hk
      go_wp2_with (first
        | (refine wpList_valW (by kernel_rfl) _ w2 (run_makeT (.tmp 42) (.tmp 42) rfl _ _ _ rfl rfl hr2) ?_)
        | (go_at_call 19; refine cl.mono ?_; rintro e yw ⟨rfl, hyw⟩; rw [hyw]; clear hyw)
        | (go_at_call 11; refine cs.mono ?_; rintro e w3 ⟨rfl, v3, G3, t3⟩; obtain ⟨b3, cH⟩ := HE.out G3 t3; clear G3 t3 cs)
        | (go_at_call 13; refine cH.mono ?_; rintro e w4 ⟨rfl, b4⟩; obtain ⟨w5, hw5⟩ : ∃ w5, w4.alloc (.cells (tlA (tlG 0 0 0 ((k : Int) - 1))) 42) = w5 := ⟨_, rfl⟩; have bb5 : Below w4.heap.size w4 w5 := (by rw [← hw5]; exact (Below.refl _ _).alloc (Nat.le_refl _) _); have b5 : Below B w w5 := b4.trans (bb5.mono (by have := b4.size; have := HX.out; omega)); have z5 : w5.heap[w4.heap.size]? = some (.cells (tlA (tlG 0 0 0 ((k : Int) - 1))) 42 (0, 0)) := (by rw [← hw5]; exact World.alloc_heap_new _ _); have y5 : w5.cell? ⟨w4.heap.size, 3, none⟩ = some (.int .i64 ((k : Int) - 1)) := tl_nmT z5; have H5 : Hid (w4.alloc (.cells (tlA (tlG 0 0 0 ((k : Int) - 1))) 42) = w5) := hw5; clear cH hw5 z5 bb5)
        | (refine wpList_new rfl rfl 42 8 (.tmp 56) rfl rfl rfl rfl (tlA tl0) (tlA (tlG 0 0 0 ((k : Int) - 1))) (zeroTele _) rfl rfl infoTele rfl (tlA_one _) ?_; rw [H5.out])
        | (go_at_call 8; refine (awake20_any _).mono ?_; rintro e w6 ⟨rfl, b6⟩))
      go_ret
      exact ⟨rfl, b5.trans (b6.mono (by have := b5.size; have := HX.out; omega))⟩
end Go.Proofs.Ytdplacpdbknlgaa.Lk
