/-
  The law CodecNumbers: any number behind any bytes; any bytes read as a number from any place on.
-/
import Derived.Test.YtgliglealchjjaaCodecFace
import Derived.Test.YtgliglealchjjaaCodecRefRead
import Derived.Deep.DeepCutAuto
namespace Go.Proofs.Ytgliglealchjjaa.Codec
set_option linter.unusedVariables false
set_option linter.unusedSimpArgs false
open Go Go.RowKit

theorem str_add (x y : List Int) : strOfNums (x ++ y) = strOfNums x ++ strOfNums y := by
  apply ByteArray.ext
  simp [strOfNums]
theorem drew_below3 (w : World) : Below w.heap.size w w.drew := below_drewN w 1
theorem rr_new (w : World) (a : Option Addr) (n cap : Nat) (zs : List Int) (t : TypeId) (j : Nat) (hr : Row w a n zs) (hc : n ≤ cap) (hc2 : cap ≤ 9223372036854775807) (h0 : a = none → cap = 0) (hj : j ≤ n) (N : Nat) (hN : N = w.heap.size) : RR (w.alloc (.cells #[.slice a n cap, .int .i64 j, .bool false] t)) N a cap zs j false := by
  subst hN
  have hl := hr.len
  have hr' := hr.after ((Below.refl _ _).alloc (Nat.le_refl _) (.cells #[.slice a n cap, .int .i64 j, .bool false] t))
  refine ⟨?_, ?_, ?_, ?_, ?_, by rw [hl]; exact hr', fun x hx hn => Nat.ne_of_lt (hr.lt x hx (by omega)), by omega, by omega, hc2, h0⟩
  · rw [cell_new, hl]; rfl
  · rw [cell_new]; rfl
  · rw [cell_new]; rfl
  · unfold World.frozen?; rw [heap_alloc_new]; rfl
  · unfold World.frozen?; rw [heap_alloc_new]; rfl
set_option maxHeartbeats 1000000 in
theorem GetNumber_out (a : Option Addr) (n cap : Nat) (k : Int) (w : World) (hk : k < 0 ∨ (n : Int) < k) (hn : n ≤ 9223372036854775807) :
    Calls Try.prog 11 #[.slice a n cap, .int .i64 k] w fun e w' => w' = w ∧ e = .returned (.tuple #[.int .i64 0, .int .i64 0, .bool false]) := by
  by_cases h1 : k < 0
  · go_enter Try.func11, Try.ntmps11
    go_wp2
    go_ret3
    exact ⟨rfl, rfl⟩
  · have h2 : (n : Int) < k := by omega
    go_enter Try.func11, Try.ntmps11
    go_wp2
    go_ret3
    exact ⟨rfl, rfl⟩
/- What was put is got. -/
theorem GetNumber_put (a : Option Addr) (cap : Nat) (zs : List Int) (v : Int) (w : World) (hr : Row w a (zs ++ num v).length (zs ++ num v)) (hc : (zs ++ num v).length ≤ cap) (hc2 : cap ≤ 9223372036854775807) (h0 : a = none → cap = 0) (hv : I64 v) :
    Calls Try.prog 11 #[.slice a (zs ++ num v).length cap, .int .i64 (zs.length : Nat)] w fun e w' => w' = w ∧ e = .returned (.tuple #[.int .i64 v, .int .i64 ((zs ++ num v).length : Nat), .bool true]) := by
  have hs : Bytes (zs ++ num v) := hr.small
  have e : (zs ++ num v).drop zs.length = num v := List.drop_left
  have hg : getNum (num v) = some (v, []) := (getNum_iff _ _ _ (by rw [← e]; exact hs.drop _)).2 ⟨by rw [List.append_nil], hv⟩
  refine (GetNumber_any a _ cap zs.length (zs ++ num v) w hr (by rw [List.length_append]; omega) hc hc2 h0).mono ?_
  rintro e' w' ⟨rfl, ⟨v', m, q, m0, m1, o, rfl⟩ | ⟨q, rfl⟩⟩
  · rw [e, hg] at q
    have q' := Option.some.inj q
    have q1 : v = v' := congrArg Prod.fst q'
    have q2 : ([] : List Int) = (zs ++ num v).drop (zs.length + m) := congrArg Prod.snd q'
    have q3 := congrArg List.length q2
    rw [List.length_drop, List.length_nil] at q3
    subst q1
    have q4 : zs.length + m = (zs ++ num v).length := by omega
    rw [q4]
    exact ⟨rfl, rfl⟩
  · rw [e, hg] at q
    cases q

set_option maxRecDepth 100000 in
set_option maxHeartbeats 8000000 in
theorem numbers_all (v : Int) (a : Option Addr) (n cap : Nat) (zs : List Int) (k : Int) (w : World) (hv : I64 v) (hk : I64 k) (hr : Row w a n zs) (h0 : a = none → n = 0 ∧ cap = 0) (hnc : n ≤ cap) (hc2 : cap ≤ 9223372036854775807) (hn : n ≤ 140737488351232) :
    Calls Try.prog 3 #[.int .i64 v, .slice a n cap, .int .i64 k] w fun e w' => e = .returned (.bool true) ∧ Below w.heap.size w w' := by
  have cW := awake_any
  have hl := hr.len
  have hN := num_len v
  have h0' : a = none → cap = 0 := fun h => (h0 h).2
  have hl99 : (zs ++ [99]).length = n + 1 := by rw [List.length_append, hl]; rfl
  obtain ⟨X, hX⟩ : ∃ X, X = (zs ++ num v).length := ⟨_, rfl⟩
  have hX2 : n ≤ X ∧ X ≤ n + 10 := by rw [hX, List.length_append, hl]; omega
  have HX : Hid (X = (zs ++ num v).length) := hX
  clear hX
  go_enter Try.func3, Try.ntmps3
  go_upto_region 3 with (first
    | (have X' := m1; at_builtin; refine wpList_append_mine rfl (.tmp 15) (.tmp 16) rfl _ zs rfl (m1.alloc _) _ 1 1 [99] rfl (row_one w1 99 5 (0, 0) (by decide) (by decide)) (fun h => by cases h) (by omega) ?_; intro v2 w2 m2 g2; have B2 := ((g1.trans (goes_alloc _ _ _)).trans g2).below; obtain ⟨a2, c2, e2, r2, z2, l2, k2⟩ := m2.form; rw [hl99] at e2 r2 z2 l2; subst e2; obtain ⟨y, rfl⟩ : ∃ y, a2 = some y := (by cases a2 with | none => exact absurd (z2 rfl).1 (by omega) | some y => exact ⟨y, rfl⟩); have q2 : (n : Int) ≤ (c2 : Int) := (by omega); have r3 := r2.head n (by omega); rw [List.take_left' hl] at r3; have cP := PutNumber_any (some y) n c2 zs v w2 r3 (fun h => by cases h) hn hv; clear m2 g2 g1 m1 z2 X')
    | (at_builtin; refine wpList_append_mine rfl (.const (.slice none 0 0)) (.tmp 14) rfl _ [] rfl (Mine.nil _) _ n cap zs rfl hr h0' (by simp; omega) ?_; intro v1 w1 m1 g1; rw [List.nil_append] at m1)
    | (go_at_call 9; refine cP.mono ?_; rintro e3 w3 ⟨b3, rfl, m3, B3, n3⟩; obtain ⟨a3, c3, e3, r4, z3, l3, k3⟩ := m3.form; rw [← HX.out] at e3 r4 z3 l3; subst e3; clear cP m3 n3))
  clear hl99
  have c99 : ∀ u, Below w3.heap.size w3 u → u.cell? (y.add n) = some (.int .u8 99) := by
    intro u hu
    obtain ⟨y', e1, e2⟩ := ((r2.after B3).after hu).cell n (by omega)
    cases e1
    rw [e2, List.getD_eq_getElem?_getD, List.getElem?_append_right (by omega), hl, Nat.sub_self]
    rfl
  have B3w : Below w.heap.size w w3 := bcat B2 B3 (Nat.le_refl _)
  have hconv := fun (u : World) (hu : Below w3.heap.size w3 u) => conv_row (hr.after (bcat B3w hu (Nat.le_refl _))) cap
  have hconvx := fun (u : World) (hu : Below w3.heap.size w3 u) => conv_row (r4.after hu) c3
  go_cut [44] (fun r wx => r = .bool false ∧ Below w3.heap.size w3 wx)
  case first =>
    have cR := refNumber_any v w3.drew hv
    have aN : ∀ u, (Op.stringOp .add (strOfNums zs) (strOfNums (num v))).run Try.prog u = .ok (.string (strOfNums (zs ++ num v))) u := fun u => by
      rw [run_string_add_sum _ _ _ (by rw [strOfNums_size, strOfNums_size]; omega), str_add]
    have same : ((strOfNums (zs ++ num v)).toList != (strOfNums (zs ++ num v)).toList) = false := by simp
    have q3 : (n : Int) + 1 ≤ (c2 : Int) := by omega
    generalize zs ++ num v = ZX at *
    generalize num v = NV at *
    have hS : Below w3.heap.size w3 w3.drew := drew_below3 w3
    refine start_held (S := fun u => Below w3.heap.size w3 u) 21 rfl (by kernel_rfl) hS ?_
    simp only [Array.replicate_succ, Array.replicate_zero, List.push_toArray, List.nil_append, List.cons_append]
    refine take_held 0 hS rfl (by kernel_rfl) (by kernel_rfl) (by kernel_rfl) (fun _ _ _ h => h) (by kernel_rfl) (v := .slice a3 X c3) ?y0 ?r0
    case y0 => (intro u hu; go_simp; try rfl)
    simp only [Act.put, List.setIfInBounds_toArray, List.set_cons_zero, List.set_cons_succ]
    refine take_held 1 hS rfl (by kernel_rfl) (by kernel_rfl) (by kernel_rfl) (fun _ _ _ h => h) (by kernel_rfl) (v := .string (strOfNums ZX)) ?y1 ?r1
    case y1 => (intro u hu; have hq := hconvx u hu; go_simp; try rfl)
    simp only [Act.put, List.setIfInBounds_toArray, List.set_cons_zero, List.set_cons_succ]
    refine take_held 2 hS rfl (by kernel_rfl) (by kernel_rfl) (by kernel_rfl) (fun _ _ _ h => h) (by kernel_rfl) (v := .slice a n cap) ?y2 ?r2
    case y2 => (intro u hu; go_simp; try rfl)
    simp only [Act.put, List.setIfInBounds_toArray, List.set_cons_zero, List.set_cons_succ]
    refine take_held 3 hS rfl (by kernel_rfl) (by kernel_rfl) (by kernel_rfl) (fun _ _ _ h => h) (by kernel_rfl) (v := .string (strOfNums zs)) ?y3 ?r3
    case y3 => (intro u hu; have hq := hconv u hu; go_simp; try rfl)
    simp only [Act.put, List.setIfInBounds_toArray, List.set_cons_zero, List.set_cons_succ]
    refine take_held 4 hS rfl (by kernel_rfl) (by kernel_rfl) (by kernel_rfl) (fun _ _ _ h => h) (by kernel_rfl) (v := .int .i64 v) ?y4 ?r4
    case y4 => (intro u hu; go_simp; try rfl)
    simp only [Act.put, List.setIfInBounds_toArray, List.set_cons_zero, List.set_cons_succ]
    refine call_held 5 rfl (by kernel_rfl) (by kernel_rfl) 10 #[.int .i64 v] (by go_simp) _ cR ?_
    rintro e5 x5 ⟨b5, rfl, m5, l5, n5⟩
    have hS5 : Below w3.heap.size w3 x5 := bcat hS l5 (Nat.le_refl _)
    have v5 := m5.conv
    refine Or.inl ⟨_, rfl, hS5, ?_⟩
    simp only [Act.put, List.setIfInBounds_toArray, List.set_cons_zero, List.set_cons_succ]
    refine read_held 6 rfl (by kernel_rfl) (by kernel_rfl) (.string (strOfNums NV)) (by go_simp) hS5 ?_
    simp only [Act.put, List.setIfInBounds_toArray, List.set_cons_zero, List.set_cons_succ]
    refine read_held 7 rfl (by kernel_rfl) (by kernel_rfl) (.string (strOfNums ZX)) (by go_simp) hS5 ?_
    simp only [Act.put, List.setIfInBounds_toArray, List.set_cons_zero, List.set_cons_succ]
    refine read_held 8 rfl (by kernel_rfl) (by kernel_rfl) (.bool false) (by go_simp) hS5 ?_
    simp only [Act.put, List.setIfInBounds_toArray, List.set_cons_zero, List.set_cons_succ]
    refine read_held 9 rfl (by kernel_rfl) (by kernel_rfl) (.bool false) (by go_simp) hS5 ?_
    simp only [Act.put, List.setIfInBounds_toArray, List.set_cons_zero, List.set_cons_succ]
    refine take_held 10 hS5 rfl (by kernel_rfl) (by kernel_rfl) (by kernel_rfl) (fun _ _ _ h => h) (by kernel_rfl) (v := .slice (some y) n c2) ?y10 ?r10
    case y10 => (intro u hu; go_simp; try first | rfl | (intro h; exfalso; omega) | go_num)
    simp only [Act.put, List.setIfInBounds_toArray, List.set_cons_zero, List.set_cons_succ]
    refine take_held 11 hS5 rfl (by kernel_rfl) (by kernel_rfl) (by kernel_rfl) (fun _ _ _ h => h) (by kernel_rfl) (v := .slice a n cap) ?y11 ?r11
    case y11 => (intro u hu; go_simp; try first | rfl | (intro h; exfalso; omega) | go_num)
    simp only [Act.put, List.setIfInBounds_toArray, List.set_cons_zero, List.set_cons_succ]
    refine take_held 12 hS5 rfl (by kernel_rfl) (by kernel_rfl) (by kernel_rfl) (fun _ _ _ h => h) (by kernel_rfl) (v := .int .i64 n) ?y12 ?r12
    case y12 => (intro u hu; go_simp; try first | rfl | (intro h; exfalso; omega) | go_num)
    simp only [Act.put, List.setIfInBounds_toArray, List.set_cons_zero, List.set_cons_succ]
    refine take_held 13 hS5 rfl (by kernel_rfl) (by kernel_rfl) (by kernel_rfl) (fun _ _ _ h => h) (by kernel_rfl) (v := .int .i64 (n + 1)) ?y13 ?r13
    case y13 => (intro u hu; have hw : IntKind.i64.wrap ((n : Int) + 1) = (n : Int) + 1 := (by rw [IntKind.wrap_i64]; omega); go_simp; try first | rfl | exact hw)
    simp only [Act.put, List.setIfInBounds_toArray, List.set_cons_zero, List.set_cons_succ]
    refine take_held 14 hS5 rfl (by kernel_rfl) (by kernel_rfl) (by kernel_rfl) (fun _ _ _ h => h) (by kernel_rfl) (v := .slice (some y) (n + 1) c2) ?y14 ?r14
    case y14 => (intro u hu; go_simp; try first | rfl | (intro h; exfalso; omega) | go_num)
    simp only [Act.put, List.setIfInBounds_toArray, List.set_cons_zero, List.set_cons_succ]
    refine take_held 15 hS5 rfl (by kernel_rfl) (by kernel_rfl) (by kernel_rfl) (fun _ _ _ h => h) (by kernel_rfl) (v := .slice a n cap) ?y15 ?r15
    case y15 => (intro u hu; go_simp; try first | rfl | (intro h; exfalso; omega) | go_num)
    simp only [Act.put, List.setIfInBounds_toArray, List.set_cons_zero, List.set_cons_succ]
    refine take_held 16 hS5 rfl (by kernel_rfl) (by kernel_rfl) (by kernel_rfl) (fun _ _ _ h => h) (by kernel_rfl) (v := .int .i64 n) ?y16 ?r16
    case y16 => (intro u hu; go_simp; try first | rfl | (intro h; exfalso; omega) | go_num)
    simp only [Act.put, List.setIfInBounds_toArray, List.set_cons_zero, List.set_cons_succ]
    refine take_held 17 hS5 rfl (by kernel_rfl) (by kernel_rfl) (by kernel_rfl) (fun _ _ _ h => h) (by kernel_rfl) (v := .pointer (some (y.add n))) ?y17 ?r17
    case y17 => (intro u hu; go_simp; try first | rfl | (intro h; exfalso; omega) | go_num)
    simp only [Act.put, List.setIfInBounds_toArray, List.set_cons_zero, List.set_cons_succ]
    refine take_held 18 hS5 rfl (by kernel_rfl) (by kernel_rfl) (by kernel_rfl) (fun _ _ _ h => h) (by kernel_rfl) (v := .int .u8 99) ?y18 ?r18
    case y18 => (intro u hu; have hq := c99 u hu; go_simp; try rfl)
    simp only [Act.put, List.setIfInBounds_toArray, List.set_cons_zero, List.set_cons_succ]
    refine take_held 19 hS5 rfl (by kernel_rfl) (by kernel_rfl) (by kernel_rfl) (fun _ _ _ h => h) (by kernel_rfl) (v := .bool false) ?y19 ?r19
    case y19 => (intro u hu; go_simp; try rfl)
    simp only [Act.put, List.setIfInBounds_toArray, List.set_cons_zero, List.set_cons_succ]
    refine take_held 20 hS5 rfl (by kernel_rfl) (by kernel_rfl) (by kernel_rfl) (fun _ _ _ h => h) (by kernel_rfl) (v := .bool false) ?y20 ?r20
    case y20 => (intro u hu; go_simp; try rfl)
    simp only [Act.put, List.setIfInBounds_toArray, List.set_cons_zero, List.set_cons_succ]
    refine done_held (by kernel_rfl) ?_ _
    go_wp2_with fail
    go_meet
    exact ⟨rfl, hS5⟩
  case rest =>
  obtain ⟨rfl, B4⟩ := hcut
  have B4w : Below w.heap.size w wc := bcat B3w B4 (Nat.le_refl _)
  have k3' : c3 ≤ 9223372036854775807 := k3
  have r5 := r4.after B4
  have cG : Calls Try.prog 11 #[.slice a3 X c3, .int .i64 n] wc fun e w' => w' = wc ∧ e = .returned (.tuple #[.int .i64 v, .int .i64 X, .bool true]) := by
    have e := HX.out
    subst e
    have := GetNumber_put a3 c3 zs v wc r5 l3 k3' (fun h => (z3 h).2) hv
    rw [hl] at this
    exact this
  clear hconvx c99 r4 r5 r2 r3 l3 k3 l2 k2 z3
  have hcopy := copy_any a n cap zs wc (hr.after B4w) (by omega) h0
  have hvv : (v != v) = false := by simp
  by_cases hneg : k < 0
  · have cO := fun (u : World) (b : Option Addr) (c : Nat) => GetNumber_out b n c k u (Or.inl hneg) (by omega)
    clear hk
    go_wp2_with (first
      | (have X' := hx5; go_at_call 11; refine (cO _ _ _).mono ?_; rintro e6 w6 ⟨rfl, rfl⟩)
      | (go_at_call 12; refine hcopy.mono ?_; rintro e5 w5 ⟨ca, cc, rfl, crow, cown, hx5⟩; have cf := own_form cown)
      | (go_at_call 11; refine cG.mono ?_; rintro e4 w4 ⟨rfl, rfl⟩)
      | (go_at_call 13; refine (cW _).mono ?_; rintro e9 w9 ⟨rfl, b9⟩))
    go_ret
    exact ⟨rfl, bcat (bcat B4w hx5 (Nat.le_refl _)) b9 (Nat.le_refl _)⟩
  by_cases hbig : (n : Int) < k
  · have cO := fun (u : World) (b : Option Addr) (c : Nat) => GetNumber_out b n c k u (Or.inr hbig) (by omega)
    have hd : decide ((n : Int) ≤ k) = true := decide_eq_true (by omega)
    clear hk
    go_wp2_with (first
      | (have X' := hx5; go_at_call 11; refine (cO _ _ _).mono ?_; rintro e6 w6 ⟨rfl, rfl⟩)
      | (go_at_call 12; refine hcopy.mono ?_; rintro e5 w5 ⟨ca, cc, rfl, crow, cown, hx5⟩; have cf := own_form cown)
      | (go_at_call 11; refine cG.mono ?_; rintro e4 w4 ⟨rfl, rfl⟩)
      | (go_at_call 13; refine (cW _).mono ?_; rintro e9 w9 ⟨rfl, b9⟩))
    go_ret
    exact ⟨rfl, bcat (bcat B4w hx5 (Nat.le_refl _)) b9 (Nat.le_refl _)⟩
  obtain ⟨j, rfl⟩ := Int.eq_ofNat_of_zero_le (show 0 ≤ k by omega)
  have hjn : j ≤ n := by omega
  clear hk hneg hbig
  by_cases hjl : j = n
  · subst hjl
    have H0 : Hid (getNum (zs.drop j) = none) := by rw [List.drop_eq_nil_of_le (by omega)]; rfl
    have cO : ∀ (u : World) (b : Option Addr) (c : Nat), Row u b j zs → (j ≤ c ∧ c ≤ 9223372036854775807 ∧ (b = none → c = 0)) → Calls Try.prog 11 #[.slice b j c, .int .i64 j] u fun e w' => w' = u ∧ e = .returned (.tuple #[.int .i64 0, .int .i64 0, .bool false]) := by
      intro u b c h1 h2
      refine (GetNumber_any b j c j zs u h1 (Nat.le_refl _) h2.1 h2.2.1 h2.2.2).mono ?_
      rintro e w' ⟨rfl, ⟨v', m, q, _⟩ | ⟨q, rfl⟩⟩
      · rw [H0.out] at q
        cases q
      · exact ⟨rfl, rfl⟩
    go_wp2_with (first
      | (have X' := hx5; go_at_call 11; refine (cO _ _ _ crow cf).mono ?_; rintro e6 w6 ⟨rfl, rfl⟩)
      | (go_at_call 12; refine hcopy.mono ?_; rintro e5 w5 ⟨ca, cc, rfl, crow, cown, hx5⟩; have cf := own_form cown)
      | (go_at_call 11; refine cG.mono ?_; rintro e4 w4 ⟨rfl, rfl⟩)
      | (go_at_call 13; refine (cW _).mono ?_; rintro e9 w9 ⟨rfl, b9⟩))
    go_ret
    exact ⟨rfl, bcat (bcat B4w hx5 (Nat.le_refl _)) b9 (Nat.le_refl _)⟩
  · have hjlt : j < n := by omega
    have hd : decide ((n : Int) ≤ (j : Int)) = false := decide_eq_false (by omega)
    have cJ0 := fun (u : World) (b : Option Addr) (c : Nat) (h1 : Row u b n zs) (h2 : n ≤ c ∧ c ≤ 9223372036854775807 ∧ (b = none → c = 0)) => GetNumber_any b n c j zs u h1 hjn h2.1 h2.2.1 h2.2.2
    have cR0 := fun (u : World) (hu : Below w.heap.size w u) => rnumber_any _ _ _ _ _ _ _ (rr_new u a n cap zs 31 j (hr.after hu) hnc hc2 h0' hjn u.heap.size rfl)
    have hs : Bytes zs := hr.small
    rcases fnum_cases (zs.drop j) (hs.drop j) with ⟨v6, m6, e1, e2, e3, e4, _⟩ | ⟨e1, _⟩
    · have q6 : getNum (zs.drop j) = some (v6, zs.drop (j + m6)) := by rw [← List.drop_drop]; exact e1
      rw [List.length_drop] at e3
      have hdet : ∀ (v' : Int) (k' : Nat), k' ≤ n → getNum (zs.drop j) = some (v', zs.drop k') → v' = v6 ∧ k' = j + m6 := by
        intro v' k' hk' q
        rw [q6] at q
        have q' := Option.some.inj q
        have q1 : v6 = v' := congrArg Prod.fst q'
        have q2 : zs.drop (j + m6) = zs.drop k' := congrArg Prod.snd q'
        have q3 := congrArg List.length q2
        rw [List.length_drop, List.length_drop] at q3
        exact ⟨q1.symm, by omega⟩
      have cJ : ∀ (u : World) (b : Option Addr) (c : Nat), Row u b n zs → (n ≤ c ∧ c ≤ 9223372036854775807 ∧ (b = none → c = 0)) → Calls Try.prog 11 #[.slice b n c, .int .i64 j] u fun e w' => w' = u ∧ e = .returned (.tuple #[.int .i64 v6, .int .i64 ((j + m6 : Nat) : Int), .bool true]) := by
        intro u b c h1 h2
        refine (cJ0 u b c h1 h2).mono ?_
        rintro e w' ⟨rfl, ⟨v', m, q, _, hm, _, rfl⟩ | ⟨q, rfl⟩⟩
        · obtain ⟨rfl, h⟩ := hdet v' (j + m) hm q
          rw [h]
          exact ⟨rfl, rfl⟩
        · rw [q6] at q
          cases q
      have cR : ∀ (u : World), Below w.heap.size w u → Calls Try.prog 14 #[.pointer (some ⟨u.heap.size, 0, none⟩)] (u.alloc (.cells #[.slice a n cap, .int .i64 j, .bool false] 31)) fun e w' => (u.alloc (.cells #[.slice a n cap, .int .i64 j, .bool false] 31)).grownBy w' (some u.heap.size) ∧ e = .returned (.int .i64 v6) ∧ w'.cell? ⟨u.heap.size, 1, none⟩ = some (.int .i64 ((j + m6 : Nat) : Int)) ∧ w'.cell? ⟨u.heap.size, 2, none⟩ = some (.bool false) := by
        intro u hu
        refine (cR0 u hu).mono ?_
        rintro e w' ⟨g, ⟨v', k', _, q, _, _, rfl, rr⟩ | ⟨q, _⟩⟩
        · have hle := rr.le
          obtain ⟨rfl, rfl⟩ := hdet v' k' (by omega) q
          exact ⟨g, rfl, rr.i, rr.b⟩
        · rcases q with q | q
          · cases q
          · have q' : getNum (zs.drop j) = none := q
            rw [q6] at q'
            cases q'
      have hm6 : (j : Int) + m6 ≤ 9223372036854775807 := by omega
      have hvv6 : (v6 == v6) = true := by simp
      clear cJ0 cR0 hdet q6 e1 e4
      go_wp2_with (first
        | (have X' := hx5; go_at_call 11; refine (cJ _ _ _ crow cf).mono ?_; rintro e6 w6 ⟨rfl, rfl⟩; have B5 := bcat B4w hx5 (Nat.le_refl _))
        | (go_at_call 12; refine hcopy.mono ?_; rintro e5 w5 ⟨ca, cc, rfl, crow, cown, hx5⟩; have cf := own_form cown)
        | (go_at_call 11; refine cG.mono ?_; rintro e4 w4 ⟨rfl, rfl⟩)
        | (have X' := B5; go_at_call 14; refine (cR _ B5).mono ?_; rintro e7 w7 ⟨g7, rfl, i7, z7⟩; have B7 := (B5.alloc B5.size _).grown g7 (by have := B5.size; simp; omega) (fun k hk => by cases hk; exact B5.size))
        | (go_at_call 13; refine (cW _).mono ?_; rintro e9 w9 ⟨rfl, b9⟩))
      go_ret
      exact ⟨rfl, bcat B7 b9 (Nat.le_refl _)⟩
    · have cJ : ∀ (u : World) (b : Option Addr) (c : Nat), Row u b n zs → (n ≤ c ∧ c ≤ 9223372036854775807 ∧ (b = none → c = 0)) → Calls Try.prog 11 #[.slice b n c, .int .i64 j] u fun e w' => w' = u ∧ e = .returned (.tuple #[.int .i64 0, .int .i64 0, .bool false]) := by
        intro u b c h1 h2
        refine (cJ0 u b c h1 h2).mono ?_
        rintro e w' ⟨rfl, ⟨v', m, q, _⟩ | ⟨q, rfl⟩⟩
        · rw [e1] at q
          cases q
        · exact ⟨rfl, rfl⟩
      have cR : ∀ (u : World), Below w.heap.size w u → Calls Try.prog 14 #[.pointer (some ⟨u.heap.size, 0, none⟩)] (u.alloc (.cells #[.slice a n cap, .int .i64 j, .bool false] 31)) fun e w' => (u.alloc (.cells #[.slice a n cap, .int .i64 j, .bool false] 31)).grownBy w' (some u.heap.size) ∧ e = .returned (.int .i64 0) ∧ True ∧ w'.cell? ⟨u.heap.size, 2, none⟩ = some (.bool true) := by
        intro u hu
        refine (cR0 u hu).mono ?_
        rintro e w' ⟨g, ⟨v', k', _, q, _⟩ | ⟨_, rfl, k', rr⟩⟩
        · have q' : getNum (zs.drop j) = some (v', zs.drop k') := q
          rw [e1] at q'
          cases q'
        · exact ⟨g, rfl, trivial, rr.b⟩
      clear cJ0 cR0 e1
      go_wp2_with (first
        | (have X' := hx5; go_at_call 11; refine (cJ _ _ _ crow cf).mono ?_; rintro e6 w6 ⟨rfl, rfl⟩; have B5 := bcat B4w hx5 (Nat.le_refl _))
        | (go_at_call 12; refine hcopy.mono ?_; rintro e5 w5 ⟨ca, cc, rfl, crow, cown, hx5⟩; have cf := own_form cown)
        | (go_at_call 11; refine cG.mono ?_; rintro e4 w4 ⟨rfl, rfl⟩)
        | (have X' := B5; go_at_call 14; refine (cR _ B5).mono ?_; rintro e7 w7 ⟨g7, rfl, i7, z7⟩; have B7 := (B5.alloc B5.size _).grown g7 (by have := B5.size; simp; omega) (fun k hk => by cases hk; exact B5.size))
        | (go_at_call 13; refine (cW _).mono ?_; rintro e9 w9 ⟨rfl, b9⟩))
      go_ret
      exact ⟨rfl, bcat B7 b9 (Nat.le_refl _)⟩
end Go.Proofs.Ytgliglealchjjaa.Codec
