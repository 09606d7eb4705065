/-
  The law DiskSure of package skeplaw03, for bytes of at most 4000.
-/
import Derived.Test.YtdhcoffbobegoaaDiskOrder
import Derived.Laws.Concat
namespace Go.Proofs.Ytdhcoffbobegoaa.Disk
set_option linter.unusedVariables false
set_option linter.unusedSimpArgs false
open Go Go.RowKit

def su1 (fs : List Int) : St := setSt aw0 1 ((aw0 1).1, (aw0 1).2 ++ fs.map Sum.inl)
def su2 (fs : List Int) : St := setSt (su1 fs) 1 (now (su1 fs) 1, [])
def su3 (fs ms : List Int) : St := setSt (su2 fs) 1 ((su2 fs 1).1, (su2 fs 1).2 ++ ms.map Sum.inl)
theorem now_su1 (fs : List Int) : now (su1 fs) 1 = fs := by
  unfold su1
  rw [now_put]
  exact List.nil_append fs
theorem now_su2 (fs : List Int) : now (su2 fs) 1 = fs := by
  unfold su2
  rw [now_sync, now_su1]
theorem su3_at (fs ms : List Int) : su3 fs ms 1 = (fs, ms.map Sum.inl) := by
  unfold su3
  simp only [setSt, if_true]
  unfold su2
  simp only [setSt, if_true, now_su1, List.nil_append]
theorem su3_zero (fs ms : List Int) : su3 fs ms 0 = ([], []) := rfl
theorem read_su3 (fs ms : List Int) : readOf (su3 fs ms) 1 = fs ++ ms := by
  rw [show (1 : Int) = ((1 : Nat) : Int) from rfl, read_len _ 1 (by decide)]
  unfold now
  rw [su3_at, run_bytes]
theorem pend_su3 (fs ms : List Int) : pendOf (su3 fs ms) 1 = ms.length := by
  unfold pendOf
  rw [show isFile 1 = true from rfl, if_pos rfl, show (1 : Int).toNat = 1 from rfl, su3_at, List.length_map]
theorem read_cr (fs ms : List Int) (a b : Int) (n : Nat) (hn : ms.take n = ms.take b.toNat) : readOf (crashSt (su3 fs ms) a b) 1 = fs ++ ms.take n := by
  rw [show (1 : Int) = ((1 : Nat) : Int) from rfl, read_len _ 1 (by decide)]
  unfold now crashSt
  rw [su3_at, hn]
  simp only [run_nil, show ¬ (1 : Nat) = 0 by decide, if_false]
  rw [take_map_inl, run_bytes]
theorem read_cr0 (fs ms : List Int) (a b : Int) : readOf (crashSt (su3 fs ms) a b) 0 = [] := by
  rw [show (0 : Int) = ((0 : Nat) : Int) from rfl, read_len _ 0 (by decide)]
  unfold now crashSt
  rw [su3_zero]
  simp [run]
theorem pend_cr (fs ms : List Int) (a b : Int) : pendOf (crashSt (su3 fs ms) a b) 1 = 0 := rfl
theorem str_add (x y : List Int) : strOfNums (x ++ y) = strOfNums x ++ strOfNums y := by
  apply ByteArray.ext
  simp [strOfNums]

theorem clamp_any (b : Int) (l : Nat) (hb : b ≤ 9223372036854775807) : ∃ (q : Int) (n : Nat), n ≤ l ∧ (∀ zs : List Int, zs.length = l → zs.take n = zs.take b.toNat) ∧
    (∀ w, (Builtin.min_ #[3, 3] 3 #[.int .i64 b, .int .i64 l]).run Try.prog w = .ok (.int .i64 q) w) ∧ (∀ w, (Builtin.max_ #[3, 3] 3 #[.int .i64 0, .int .i64 q]).run Try.prog w = .ok (.int .i64 n) w) := by
  refine ⟨if (l : Int) < b then l else b, (if (l : Int) < b then (l : Int) else b).toNat, by split <;> omega, fun zs hz => ?_, fun w => by rw [run_min_int2], fun w => ?_⟩
  · rw [List.take_eq_take_iff]
    split <;> omega
  · rw [run_max_int2]
    congr 2
    split <;> split <;> omega

set_option maxRecDepth 100000 in
set_option maxHeartbeats 4000000 in
theorem sure_any (a0 : Option Addr) (len0 cap0 : Nat) (fs : List Int) (a1 : Option Addr) (len1 cap1 : Nat) (ms : List Int) (a b : Int) (w : World) (hr0 : Row w a0 len0 fs) (hr1 : Row w a1 len1 ms) (hz0 : a0 = none → len0 = 0 ∧ cap0 = 0) (hz1 : a1 = none → len1 = 0 ∧ cap1 = 0)
    (h0 : len0 ≤ 4000) (h1 : len1 ≤ 4000) (hc1 : len1 ≤ cap1) (ha : a ≤ 9223372036854775807) (hb : b ≤ 9223372036854775807) :
    Calls Try.prog 4 #[.slice a0 len0 cap0, .slice a1 len1 cap1, .int .i64 a, .int .i64 b] w fun e w' => e = .returned (.bool true) ∧ Below w.heap.size w w' := by
  obtain ⟨q, n, hnl, hnt, hmin, hmax⟩ := clamp_any b len1 hb
  have hl0 := hr0.len
  have hl1 := hr1.len
  have HT : Hid (ms.take n = ms.take b.toNat) := hnt ms hl1
  clear hnt
  have cA := awake_any w
  have hn0 : (0 : Int) ≤ (n : Int) := Int.natCast_nonneg _
  have hn1 : (n : Int) ≤ (cap1 : Int) := by omega
  have i0 : (len0 : Int) ≤ 4000 := by omega
  have i1 : (len1 : Int) ≤ 4000 := by omega
  go_enter Try.func4, Try.ntmps4
  go_wp2_with (first
    | (go_at_call 16; refine (lone_crash h7 (by decide) a b ha hb).mono ?_; rintro e w8 ⟨x, rfl, h8⟩)
    | (go_at_call 13; refine (lone_append_ok (h5.later hb6) (by decide) 1 (by decide) _ _ _ _ hr6 hn6 (by have := now_su2 fs; rw [this]; omega)).mono ?_; rintro e w7 ⟨rfl, h7⟩; replace h7 : Lone w w7 wA.heap.size (su3 fs ms) 3 := h7)
    | (go_at_call 14; refine (copy_any a1 len1 cap1 ms w5 (hr1.after h5.below) (by omega) hz1).mono ?_; rintro e w6 ⟨a6, cap6, rfl, hr6, ho6, hb6⟩; have hn6 := (owns_row ho6 hr6.small).2.1)
    | (go_at_call 15; refine (lone_sync_ok h4 (by decide) 1 (by decide)).mono ?_; rintro e w5 ⟨rfl, h5⟩; replace h5 : Lone w w5 wA.heap.size (su2 fs) 2 := h5)
    | (go_at_call 13; refine (lone_append_ok (h2.later hb3) (by decide) 1 (by decide) _ _ _ _ hr3 hn3 (by show 0 + len0 ≤ _; omega)).mono ?_; rintro e w4 ⟨rfl, h4⟩; replace h4 : Lone w w4 wA.heap.size (su1 fs) 1 := h4)
    | (go_at_call 14; refine (copy_any a0 len0 cap0 fs w2 (hr0.after h2.below) (by omega) hz0).mono ?_; rintro e w3 ⟨a3, cap3, rfl, hr3, ho3, hb3⟩; have hn3 := (owns_row ho3 hr3.small).2.1)
    | (go_at_call 9; refine (lone_new w wA bA).mono ?_; rintro e w2 ⟨rfl, h2⟩; replace h2 : Lone w w2 wA.heap.size aw0 0 := h2)
    | (go_at_call 8; refine cA.mono ?_; rintro e wA ⟨rfl, bA⟩))
  · refine start_since 45 rfl (by kernel_rfl) ?_
    have hS := (Since.refl w8).drew
    have B8 : Below w.heap.size w w8 := (h8.rebase h7.below).below
    have kF : ∀ u, Since w8 u → (convert 28 9 (.slice a0 len0 cap0)).run Try.prog u = .ok (.string (strOfNums fs)) u := fun u hu => conv_row (hr0.after (B8.trans (Below.mono hu B8.size))) cap0
    have kN : ∀ u, Since w8 u → (convert 28 9 (.slice a1 n cap1)).run Try.prog u = .ok (.string (strOfNums (ms.take n))) u := fun u hu => conv_row ((hr1.head n hnl).after (B8.trans (Below.mono hu B8.size))) cap1
    have kM : ∀ u, Since w8 u → (convert 28 9 (.slice a1 len1 cap1)).run Try.prog u = .ok (.string (strOfNums ms)) u := fun u hu => conv_row (hr1.after (B8.trans (Below.mono hu B8.size))) cap1
    have aN : ∀ u, (Op.stringOp .add (strOfNums fs) (strOfNums (ms.take n))).run Try.prog u = .ok (.string (strOfNums (fs ++ ms.take n))) u := fun u => by
      rw [run_string_add_sum _ _ _ (by rw [strOfNums_size, strOfNums_size, List.length_take]; omega), str_add]
    have aM : ∀ u, (Op.stringOp .add (strOfNums fs) (strOfNums ms)).run Try.prog u = .ok (.string (strOfNums (fs ++ ms))) u := fun u => by
      rw [run_string_add_sum _ _ _ (by rw [strOfNums_size, strOfNums_size]; omega), str_add]
    have c4 := read_step h8.drew (by decide) 1 _ (fs ++ ms.take n).length (read_cr fs ms a b n HT.out) rfl
    have hlen : (fs ++ ms.take n).length = len0 + n := by rw [List.length_append, List.length_take]; omega
    have hlen2 : (fs ++ ms).length = len0 + len1 := by rw [List.length_append]; omega
    rw [hlen] at c4
    have r6 : Hid (readOf (crashSt (su3 fs ms) a b) 0 = []) := read_cr0 fs ms a b
    have r8 : Hid (readOf (su3 fs ms) 1 = fs ++ ms) := read_su3 fs ms
    have p8 : Hid (pendOf (su3 fs ms) 1 = len1) := by rw [pend_su3]; exact hl1
    have p6 : Hid (pendOf (crashSt (su3 fs ms) a b) 1 = 0) := pend_cr fs ms a b
    clear cA hmin hmax h2 hr3 ho3 hb3 hn3 h4 h5 hr6 ho6 hb6 hn6
    generalize strOfNums fs = sF at *
    generalize hsN : strOfNums (ms.take n) = sN at kN aN
    generalize hsM : strOfNums ms = sM at kM aM
    refine take_since 0 (by assumption) rfl (by kernel_rfl) (by kernel_rfl) (by kernel_rfl) (fun _ _ _ h => h) (by kernel_rfl) (v := ?v0) ?y0 ?r0
    case y0 => (intro u hu; go_simp; try rfl)
    simp only [Act.put, List.setIfInBounds_toArray, List.set_cons_zero, List.set_cons_succ]
    refine take_since 1 (by assumption) rfl (by kernel_rfl) (by kernel_rfl) (by kernel_rfl) (fun _ _ _ h => h) (by kernel_rfl) (v := ?v1) ?y1 ?r1
    case y1 => (intro u hu; go_simp; try rfl)
    simp only [Act.put, List.setIfInBounds_toArray, List.set_cons_zero, List.set_cons_succ]
    refine take_since 2 (by assumption) rfl (by kernel_rfl) (by kernel_rfl) (by kernel_rfl) (fun _ _ _ h => h) (by kernel_rfl) (v := ?v2) ?y2 ?r2
    case y2 => (intro u hu; go_simp; try rfl)
    simp only [Act.put, List.setIfInBounds_toArray, List.set_cons_zero, List.set_cons_succ]
    refine take_since 3 (by assumption) rfl (by kernel_rfl) (by kernel_rfl) (by kernel_rfl) (fun _ _ _ h => h) (by kernel_rfl) (v := ?v3) ?y3 ?r3
    case y3 => (intro u hu; go_simp; try rfl)
    simp only [Act.put, List.setIfInBounds_toArray, List.set_cons_zero, List.set_cons_succ]
    refine take_since 6 (by assumption) rfl (by kernel_rfl) (by kernel_rfl) (by kernel_rfl) (fun _ _ _ h => h) (by kernel_rfl) (v := ?v6) ?y6 ?r6
    case y6 => (intro u hu; go_simp; try rfl)
    simp only [Act.put, List.setIfInBounds_toArray, List.set_cons_zero, List.set_cons_succ]
    refine take_since 7 (by assumption) rfl (by kernel_rfl) (by kernel_rfl) (by kernel_rfl) (fun _ _ _ h => h) (by kernel_rfl) (v := ?v7) ?y7 ?r7
    case y7 => (intro u hu; have := kF u hu; go_simp; try rfl)
    simp only [Act.put, List.setIfInBounds_toArray, List.set_cons_zero, List.set_cons_succ]
    refine take_since 8 (by assumption) rfl (by kernel_rfl) (by kernel_rfl) (by kernel_rfl) (fun _ _ _ h => h) (by kernel_rfl) (v := ?v8) ?y8 ?r8
    case y8 => (intro u hu; go_simp; try rfl)
    simp only [Act.put, List.setIfInBounds_toArray, List.set_cons_zero, List.set_cons_succ]
    refine take_since 9 (by assumption) rfl (by kernel_rfl) (by kernel_rfl) (by kernel_rfl) (fun _ _ _ h => h) (by kernel_rfl) (v := ?v9) ?y9 ?r9
    case y9 => (intro u hu; go_simp; try rfl)
    simp only [Act.put, List.setIfInBounds_toArray, List.set_cons_zero, List.set_cons_succ]
    refine take_since 10 (by assumption) rfl (by kernel_rfl) (by kernel_rfl) (by kernel_rfl) (fun _ _ _ h => h) (by kernel_rfl) (v := ?v10) ?y10 ?r10
    case y10 => (intro u hu; go_simp; try rfl)
    simp only [Act.put, List.setIfInBounds_toArray, List.set_cons_zero, List.set_cons_succ]
    refine take_since 11 (by assumption) rfl (by kernel_rfl) (by kernel_rfl) (by kernel_rfl) (fun _ _ _ h => h) (by kernel_rfl) (v := ?v11) ?y11 ?r11
    case y11 => (intro u hu; have := kN u hu; go_simp; try rfl)
    simp only [Act.put, List.setIfInBounds_toArray, List.set_cons_zero, List.set_cons_succ]
    refine take_since 12 (by assumption) rfl (by kernel_rfl) (by kernel_rfl) (by kernel_rfl) (fun _ _ _ h => h) (by kernel_rfl) (v := ?v12) ?y12 ?r12
    case y12 => (intro u hu; have := aN u; go_simp; try rfl)
    simp only [Act.put, List.setIfInBounds_toArray, List.set_cons_zero, List.set_cons_succ]
    refine call_since 4 rfl (by kernel_rfl) (by kernel_rfl) 17 #[.pointer (some ⟨x, 0, none⟩), .int .i64 1] (by go_simp) _ c4 ?_
    rintro v w9 ⟨a9, cap9, rfl, hr9, hb9⟩
    refine ⟨hS.on hb9, ?_⟩
    simp only [Act.put, List.setIfInBounds_toArray, List.set_cons_zero, List.set_cons_succ]
    have hS9 := hS.on hb9
    have k9 := conv_row hr9 cap9
    refine read_since 5 rfl (by kernel_rfl) (by kernel_rfl) (.string (strOfNums (fs ++ ms.take n))) (by go_simp) (by assumption) ?_
    simp only [Act.put, List.setIfInBounds_toArray, List.set_cons_zero, List.set_cons_succ]
    refine take_since 13 (by assumption) rfl (by kernel_rfl) (by kernel_rfl) (by kernel_rfl) (fun _ _ _ h => h) (by kernel_rfl) (v := ?v13) ?y13 ?r13
    case y13 => (intro u hu; go_simp; try rfl)
    simp only [Act.put, List.setIfInBounds_toArray, List.set_cons_zero, List.set_cons_succ]
    refine take_since 14 (by assumption) rfl (by kernel_rfl) (by kernel_rfl) (by kernel_rfl) (fun _ _ _ h => h) (by kernel_rfl) (v := ?v14) ?y14 ?r14
    case y14 => (intro u hu; go_simp; try rfl)
    simp only [Act.put, List.setIfInBounds_toArray, List.set_cons_zero, List.set_cons_succ]
    refine take_since 15 (by assumption) rfl (by kernel_rfl) (by kernel_rfl) (by kernel_rfl) (fun _ _ _ h => h) (by kernel_rfl) (v := ?v15) ?y15 ?r15
    case y15 => (intro u hu; go_simp; try rfl)
    simp only [Act.put, List.setIfInBounds_toArray, List.set_cons_zero, List.set_cons_succ]
    refine take_since 16 (by assumption) rfl (by kernel_rfl) (by kernel_rfl) (by kernel_rfl) (fun _ _ _ h => h) (by kernel_rfl) (v := ?v16) ?y16 ?r16
    case y16 => (intro u hu; go_simp; try rfl)
    simp only [Act.put, List.setIfInBounds_toArray, List.set_cons_zero, List.set_cons_succ]
    refine call_since 17 rfl (by kernel_rfl) (by kernel_rfl) 18 #[.pointer (some ⟨x, 0, none⟩), .int .i64 1] (by go_simp) _ (pending_step (h8.drew.later hb9) 1 0 p6.out) ?_
    rintro v w9 ⟨rfl, rfl⟩
    refine ⟨hS9, ?_⟩
    simp only [Act.put, List.setIfInBounds_toArray, List.set_cons_zero, List.set_cons_succ]
    refine take_since 18 (by assumption) rfl (by kernel_rfl) (by kernel_rfl) (by kernel_rfl) (fun _ _ _ h => h) (by kernel_rfl) (v := ?v18) ?y18 ?r18
    case y18 => (intro u hu; go_simp; try rfl)
    simp only [Act.put, List.setIfInBounds_toArray, List.set_cons_zero, List.set_cons_succ]
    refine take_since 19 (by assumption) rfl (by kernel_rfl) (by kernel_rfl) (by kernel_rfl) (fun _ _ _ h => h) (by kernel_rfl) (v := ?v19) ?y19 ?r19
    case y19 => (intro u hu; go_simp; try rfl)
    simp only [Act.put, List.setIfInBounds_toArray, List.set_cons_zero, List.set_cons_succ]
    refine take_since 20 (by assumption) rfl (by kernel_rfl) (by kernel_rfl) (by kernel_rfl) (fun _ _ _ h => h) (by kernel_rfl) (v := ?v20) ?y20 ?r20
    case y20 => (intro u hu; go_simp; try rfl)
    simp only [Act.put, List.setIfInBounds_toArray, List.set_cons_zero, List.set_cons_succ]
    refine take_since 21 (by assumption) rfl (by kernel_rfl) (by kernel_rfl) (by kernel_rfl) (fun _ _ _ h => h) (by kernel_rfl) (v := ?v21) ?y21 ?r21
    case y21 => (intro u hu; go_simp; try rfl)
    simp only [Act.put, List.setIfInBounds_toArray, List.set_cons_zero, List.set_cons_succ]
    refine call_since 22 rfl (by kernel_rfl) (by kernel_rfl) 17 #[.pointer (some ⟨x, 0, none⟩), .int .i64 0] (by go_simp) _ (read_step (h8.drew.later hb9) (by decide) 0 [] 0 r6.out rfl) ?_
    rintro v w10 ⟨a10, cap10, rfl, hr10, hb10⟩
    refine ⟨hS9.on hb10, ?_⟩
    simp only [Act.put, List.setIfInBounds_toArray, List.set_cons_zero, List.set_cons_succ]
    have hS10 := hS9.on hb10
    refine take_since 23 (by assumption) rfl (by kernel_rfl) (by kernel_rfl) (by kernel_rfl) (fun _ _ _ h => h) (by kernel_rfl) (v := ?v23) ?y23 ?r23
    case y23 => (intro u hu; go_simp; try rfl)
    simp only [Act.put, List.setIfInBounds_toArray, List.set_cons_zero, List.set_cons_succ]
    refine take_since 24 (by assumption) rfl (by kernel_rfl) (by kernel_rfl) (by kernel_rfl) (fun _ _ _ h => h) (by kernel_rfl) (v := ?v24) ?y24 ?r24
    case y24 => (intro u hu; go_simp; try rfl)
    simp only [Act.put, List.setIfInBounds_toArray, List.set_cons_zero, List.set_cons_succ]
    refine take_since 25 (by assumption) rfl (by kernel_rfl) (by kernel_rfl) (by kernel_rfl) (fun _ _ _ h => h) (by kernel_rfl) (v := ?v25) ?y25 ?r25
    case y25 => (intro u hu; go_simp; try rfl)
    simp only [Act.put, List.setIfInBounds_toArray, List.set_cons_zero, List.set_cons_succ]
    refine take_since 26 (by assumption) rfl (by kernel_rfl) (by kernel_rfl) (by kernel_rfl) (fun _ _ _ h => h) (by kernel_rfl) (v := ?v26) ?y26 ?r26
    case y26 => (intro u hu; go_simp; try rfl)
    simp only [Act.put, List.setIfInBounds_toArray, List.set_cons_zero, List.set_cons_succ]
    refine take_since 27 (by assumption) rfl (by kernel_rfl) (by kernel_rfl) (by kernel_rfl) (fun _ _ _ h => h) (by kernel_rfl) (v := ?v27) ?y27 ?r27
    case y27 => (intro u hu; go_simp; try rfl)
    simp only [Act.put, List.setIfInBounds_toArray, List.set_cons_zero, List.set_cons_succ]
    refine take_since 30 (by assumption) rfl (by kernel_rfl) (by kernel_rfl) (by kernel_rfl) (fun _ _ _ h => h) (by kernel_rfl) (v := ?v30) ?y30 ?r30
    case y30 => (intro u hu; go_simp; try rfl)
    simp only [Act.put, List.setIfInBounds_toArray, List.set_cons_zero, List.set_cons_succ]
    refine take_since 31 (by assumption) rfl (by kernel_rfl) (by kernel_rfl) (by kernel_rfl) (fun _ _ _ h => h) (by kernel_rfl) (v := ?v31) ?y31 ?r31
    case y31 => (intro u hu; have := kF u hu; go_simp; try rfl)
    simp only [Act.put, List.setIfInBounds_toArray, List.set_cons_zero, List.set_cons_succ]
    refine take_since 32 (by assumption) rfl (by kernel_rfl) (by kernel_rfl) (by kernel_rfl) (fun _ _ _ h => h) (by kernel_rfl) (v := ?v32) ?y32 ?r32
    case y32 => (intro u hu; go_simp; try rfl)
    simp only [Act.put, List.setIfInBounds_toArray, List.set_cons_zero, List.set_cons_succ]
    refine take_since 33 (by assumption) rfl (by kernel_rfl) (by kernel_rfl) (by kernel_rfl) (fun _ _ _ h => h) (by kernel_rfl) (v := ?v33) ?y33 ?r33
    case y33 => (intro u hu; have := kM u hu; go_simp; try rfl)
    simp only [Act.put, List.setIfInBounds_toArray, List.set_cons_zero, List.set_cons_succ]
    refine take_since 34 (by assumption) rfl (by kernel_rfl) (by kernel_rfl) (by kernel_rfl) (fun _ _ _ h => h) (by kernel_rfl) (v := ?v34) ?y34 ?r34
    case y34 => (intro u hu; have := aM u; go_simp; try rfl)
    simp only [Act.put, List.setIfInBounds_toArray, List.set_cons_zero, List.set_cons_succ]
    refine call_since 28 rfl (by kernel_rfl) (by kernel_rfl) 17 #[.pointer (some ⟨wA.heap.size, 0, none⟩), .int .i64 1] (by go_simp) _ (read_step ((((h7.later h8.below).drew).later hb9).later hb10) (by decide) 1 _ (len0 + len1) r8.out hlen2) ?_
    rintro v w11 ⟨a11, cap11, rfl, hr11, hb11⟩
    refine ⟨hS10.on hb11, ?_⟩
    simp only [Act.put, List.setIfInBounds_toArray, List.set_cons_zero, List.set_cons_succ]
    have hS11 := hS10.on hb11
    have k11 := conv_row hr11 cap11
    refine read_since 29 rfl (by kernel_rfl) (by kernel_rfl) (.string (strOfNums (fs ++ ms))) (by go_simp) (by assumption) ?_
    simp only [Act.put, List.setIfInBounds_toArray, List.set_cons_zero, List.set_cons_succ]
    refine take_since 35 (by assumption) rfl (by kernel_rfl) (by kernel_rfl) (by kernel_rfl) (fun _ _ _ h => h) (by kernel_rfl) (v := ?v35) ?y35 ?r35
    case y35 => (intro u hu; go_simp; try rfl)
    simp only [Act.put, List.setIfInBounds_toArray, List.set_cons_zero, List.set_cons_succ]
    refine take_since 36 (by assumption) rfl (by kernel_rfl) (by kernel_rfl) (by kernel_rfl) (fun _ _ _ h => h) (by kernel_rfl) (v := ?v36) ?y36 ?r36
    case y36 => (intro u hu; go_simp; try rfl)
    simp only [Act.put, List.setIfInBounds_toArray, List.set_cons_zero, List.set_cons_succ]
    refine take_since 37 (by assumption) rfl (by kernel_rfl) (by kernel_rfl) (by kernel_rfl) (fun _ _ _ h => h) (by kernel_rfl) (v := ?v37) ?y37 ?r37
    case y37 => (intro u hu; go_simp; try rfl)
    simp only [Act.put, List.setIfInBounds_toArray, List.set_cons_zero, List.set_cons_succ]
    refine take_since 38 (by assumption) rfl (by kernel_rfl) (by kernel_rfl) (by kernel_rfl) (fun _ _ _ h => h) (by kernel_rfl) (v := ?v38) ?y38 ?r38
    case y38 => (intro u hu; go_simp; try rfl)
    simp only [Act.put, List.setIfInBounds_toArray, List.set_cons_zero, List.set_cons_succ]
    refine take_since 40 (by assumption) rfl (by kernel_rfl) (by kernel_rfl) (by kernel_rfl) (fun _ _ _ h => h) (by kernel_rfl) (v := ?v40) ?y40 ?r40
    case y40 => (intro u hu; go_simp; try rfl)
    simp only [Act.put, List.setIfInBounds_toArray, List.set_cons_zero, List.set_cons_succ]
    refine take_since 41 (by assumption) rfl (by kernel_rfl) (by kernel_rfl) (by kernel_rfl) (fun _ _ _ h => h) (by kernel_rfl) (v := ?v41) ?y41 ?r41
    case y41 => (intro u hu; go_simp; try rfl)
    simp only [Act.put, List.setIfInBounds_toArray, List.set_cons_zero, List.set_cons_succ]
    refine call_since 39 rfl (by kernel_rfl) (by kernel_rfl) 18 #[.pointer (some ⟨wA.heap.size, 0, none⟩), .int .i64 1] (by go_simp) _ (pending_step (((((h7.later h8.below).drew).later hb9).later hb10).later hb11) 1 len1 p8.out) ?_
    rintro v w11 ⟨rfl, rfl⟩
    refine ⟨hS11, ?_⟩
    simp only [Act.put, List.setIfInBounds_toArray, List.set_cons_zero, List.set_cons_succ]
    refine take_since 42 (by assumption) rfl (by kernel_rfl) (by kernel_rfl) (by kernel_rfl) (fun _ _ _ h => h) (by kernel_rfl) (v := ?v42) ?y42 ?r42
    case y42 => (intro u hu; go_simp; try rfl)
    simp only [Act.put, List.setIfInBounds_toArray, List.set_cons_zero, List.set_cons_succ]
    refine take_since 43 (by assumption) rfl (by kernel_rfl) (by kernel_rfl) (by kernel_rfl) (fun _ _ _ h => h) (by kernel_rfl) (v := ?v43) ?y43 ?r43
    case y43 => (intro u hu; go_simp; try rfl)
    simp only [Act.put, List.setIfInBounds_toArray, List.set_cons_zero, List.set_cons_succ]
    refine take_since 44 (by assumption) rfl (by kernel_rfl) (by kernel_rfl) (by kernel_rfl) (fun _ _ _ h => h) (by kernel_rfl) (v := ?v44) ?y44 ?r44
    case y44 => (intro u hu; go_simp; try rfl)
    simp only [Act.put, List.setIfInBounds_toArray, List.set_cons_zero, List.set_cons_succ]
    refine done_since (by kernel_rfl) ?_ _
    go_wp2
    go_ret
    exact ⟨rfl, B8.trans (Below.mono hS11 B8.size)⟩

end Go.Proofs.Ytdhcoffbobegoaa.Disk
