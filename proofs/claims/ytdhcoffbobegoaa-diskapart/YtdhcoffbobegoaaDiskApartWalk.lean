/-
  The law DiskApart of package skeplaw03.
-/
import Derived.Test.YtdhcoffbobegoaaDiskUnitsWalk
import Derived.Deep.DeepCutAuto
import Derived.Laws.Concat
namespace Go.Proofs.Ytdhcoffbobegoaa.Disk
set_option linter.unusedVariables false
set_option linter.unusedSimpArgs false
open Go Go.RowKit Go.ChangeShapes Go.WideShapes Go.ChangeAt
attribute [local go_sem ↓] Go.wp_at_zero Go.wp_at_succ

theorem str_add (x y : List Int) : strOfNums (x ++ y) = strOfNums x ++ strOfNums y := by
  apply ByteArray.ext
  simp [strOfNums]
theorem bytes_open {H : Type} {enc : TypeId × Value → H} {W : World} {fuel : Nat} {a : Option Addr} {len cap : Nat} {d : DataW H × List MemPlace} (h : DataW.trod enc Try.prog W 0 (fun _ => true) true fuel 28 [.slice a len cap] = some d) :
    ∃ zs, Row W a len zs ∧ (a = none → len = 0 ∧ cap = 0) ∧ len ≤ cap := by
  rcases open_ints Try.underlying28 Try.underlying5 (by kernel_rfl) h with ⟨hcs, _⟩ | ⟨x, l, c, zs, hcs, _, hl, hm, hz, hd, hbc, hwz⟩
  · simp at hcs
    obtain ⟨rfl, rfl, rfl⟩ := hcs
    exact ⟨[], nil_row W, fun _ => ⟨rfl, rfl⟩, Nat.le_refl _⟩
  · simp at hcs
    obtain ⟨rfl, rfl, rfl⟩ := hcs
    have hz' : zs.length = cap := by simpa using hz
    refine ⟨zs.take len, ⟨by rw [List.length_take]; omega, fun z hzm => ?_, fun j hj => ⟨x, rfl, ?_⟩⟩, fun h => (by cases h), hl⟩
    · have := hwz z (List.mem_of_mem_take hzm)
      simp [Lit.wf, IntKind.min, IntKind.max, IntKind.bits, IntKind.signed] at this
      omega
    · rw [hbc j (by omega), getD_in zs j (by omega), getD_in _ j (by rw [List.length_take]; omega), List.getElem_take]
theorem Lone.readBound {W w : World} {D : Nat} {σ : St} {m : Nat} (h : Lone W w D σ m) (f : Int) : (readOf σ f).length ≤ 16777216 := by
  unfold readOf
  by_cases hf : f = 0 ∨ f = 1
  · rw [isFile_yes hf, if_pos rfl]
    exact h.bound _ (by omega)
  · rw [isFile_no hf]
    exact Nat.zero_le _
theorem setSt_us (σ : St) (i j : Nat) (p : List Int × List U) (n : Nat) (h : p.2.length ≤ (σ i).2.length + n) : (setSt σ i p j).2.length ≤ (σ j).2.length + n := by
  unfold setSt
  by_cases e : j = i
  · subst e; rw [if_pos rfl]; exact h
  · rw [if_neg e]; omega
theorem app_us (σ : St) (f : Int) (bs : List Int) (j : Nat) : (appSt σ f bs j).2.length ≤ (σ j).2.length + bs.length := by
  unfold appSt
  split
  · exact setSt_us _ _ _ _ _ (by simp)
  · omega
theorem cut_us (σ : St) (f s : Int) (j : Nat) : (cutSt σ f s j).2.length ≤ (σ j).2.length + 1 := by
  unfold cutSt
  split
  · exact setSt_us _ _ _ _ _ (by simp)
  · omega
theorem sync_us (σ : St) (f : Int) (j : Nat) : (syncSt σ f j).2.length ≤ (σ j).2.length := by
  unfold syncSt
  split
  · exact setSt_us _ _ _ _ 0 (by simp)
  · omega
/- All of what is pending is done. -/
theorem now_set_le (σ : St) (i j : Nat) (p : List Int × List U) (n : Nat) (h : (run p.1 p.2).length ≤ (now σ i).length + n) : (now (setSt σ i p) j).length ≤ (now σ j).length + n := by
  by_cases e : j = i
  · subst e; rw [now_set]; exact h
  · rw [now_other _ _ _ _ e]; omega
theorem app_now (σ : St) (f : Int) (bs : List Int) (j : Nat) : (now (appSt σ f bs) j).length ≤ (now σ j).length + bs.length := by
  unfold appSt
  split
  · exact now_set_le _ _ _ _ _ (by rw [run_append, run_bytes, List.length_append]; exact Nat.le_refl _)
  · omega
theorem cut_now (σ : St) (f s : Int) (j : Nat) : (now (cutSt σ f s) j).length ≤ (now σ j).length := by
  unfold cutSt
  split
  · exact now_set_le _ _ _ _ 0 (by rw [run_append, run_cut, List.length_take]; exact Nat.min_le_right _ _)
  · exact Nat.le_refl _
theorem sync_now (σ : St) (f : Int) (j : Nat) : (now (syncSt σ f) j).length ≤ (now σ j).length := by
  unfold syncSt
  split
  · exact now_set_le _ _ _ _ 0 (by rw [run_nil]; exact Nat.le_refl _)
  · exact Nat.le_refl _
theorem two_cell0 {w : World} {b : Nat} {u v x : Value} (h : w.cell? ⟨b, 0, none⟩ = some x) : ((w.setCell ⟨b, 0, none⟩ u).setCell ⟨b, 1, none⟩ v).cell? ⟨b, 0, none⟩ = some u := by
  have := h
  go_simp
theorem two_cell1 {w : World} {b : Nat} {u v x : Value} (h : w.cell? ⟨b, 1, none⟩ = some x) : ((w.setCell ⟨b, 0, none⟩ u).setCell ⟨b, 1, none⟩ v).cell? ⟨b, 1, none⟩ = some v := by
  have := h
  go_simp
theorem size_step' {W w : World} {D : Nat} {σ : St} {m : Nat} (h : Lone W w D σ m) (f : Int) (n : Nat) (hn : (readOf σ f).length = n) : Calls Try.prog 21 #[.pointer (some ⟨D, 0, none⟩), .int .i64 f] w fun e w' => ∃ v, e = .returned v ∧ v = .int .i64 n ∧ w' = w := by
  subst hn
  exact size_step h f
theorem read_put (σ : St) (ms : List Int) : readOf (setSt (setSt σ 0 ((σ 0).1, (σ 0).2 ++ ms.map Sum.inl)) 1 ((setSt σ 0 ((σ 0).1, (σ 0).2 ++ ms.map Sum.inl) 1).1, (setSt σ 0 ((σ 0).1, (σ 0).2 ++ ms.map Sum.inl) 1).2 ++ [.inr 0])) 0 = readOf σ 0 ++ ms := by
  rw [show (0 : Int) = ((0 : Nat) : Int) from rfl, read_len _ 0 (by decide), read_len _ 0 (by decide), now_other _ _ _ _ (by decide), now_put]
theorem read_none (σ : St) : (readOf (setSt σ 1 ((σ 1).1, (σ 1).2 ++ [.inr 0])) 1).length = 0 := by
  rw [show (1 : Int) = ((1 : Nat) : Int) from rfl, read_len _ 1 (by decide), now_cut, List.take_zero]
  rfl
theorem read_all (σ : St) (i : Nat) (hi : i < 2) (M : Int) (h : (σ i).2.length ≤ M.toNat) : readOf (crashSt σ M M) i = readOf σ i := by
  rw [read_len _ i hi, read_len _ i hi]
  unfold now crashSt
  simp only [ite_self, run_nil]
  rw [List.take_of_length_le h]

set_option maxRecDepth 100000 in
set_option maxHeartbeats 40000000 in
theorem apart_any (sa : Option Addr) (sl scap : Nat) (os : Nat → Op1) (ma : Option Addr) (ml mcap : Nat) (ms : List Int) (w : World) (ho : Ops w sa sl os) (hsl : (sl : Int) ≤ 9223372036854775807) (hm : Row w ma ml ms) (hmz : ma = none → ml = 0 ∧ mcap = 0) (hml : ml ≤ 2000) :
    Calls Try.prog 5 #[.slice sa sl scap, .slice ma ml mcap] w fun e w' => e = .returned (.bool true) ∧ Below w.heap.size w w' := by
  have cA := awake_any w
  have iml : (ml : Int) ≤ 2000 := by omega
  go_enter Try.func5, Try.ntmps5
  go_wp2_with (first
    | (go_at_call 9; refine (lone_new w wA bA).mono ?_; rintro e w2 ⟨rfl, h2⟩; replace h2 : Lone w w2 wA.heap.size aw0 0 := h2)
    | (go_at_call 8; refine cA.mono ?_; rintro e wA ⟨rfl, bA⟩))
  go_loopw [6] (fun i wr => ∃ (k : Nat) (σ : St), k ≤ sl ∧ k ≤ 30 ∧ i = .int .i64 k ∧ Lone w wr wA.heap.size σ k ∧ Hid (∀ j, j < 2 → (σ j).2.length ≤ 2001 * k ∧ (now σ j).length ≤ 2001 * k)) (fun i _ => 30 - (intOf i).toNat)
  case atStart => exact ⟨0, aw0, Nat.zero_le _, Nat.zero_le _, rfl, h2, fun j _ => ⟨Nat.le_refl 0, Nat.le_refl 0⟩⟩
  case round =>
    obtain ⟨k, σ, hk1, hk2, rfl, hL, HB⟩ := hrel
    by_cases hlt : k < sl ∧ k < 30
    · obtain ⟨x, rfl, hop⟩ := ho k hlt.1
      have hop' := hop.after hL.below
      obtain ⟨c0, c1, c2, c3, c4⟩ := hop'.fields
      have row := hop'.row
      have nil := hop'.nil
      have le := hop'.le
      clear hop hop'
      generalize os k = o at *
      obtain ⟨kind, file, n, m, ba, bl, bcap, bs⟩ := o
      simp only at c0 c1 c2 c3 c4 row nil le
      have t1 : (k : Int) < (sl : Int) := by omega
      have t2 : (k : Int) < 30 := by omega
      have t0 : (0 : Int) ≤ (k : Int) := by omega
      by_cases hbig : 2000 < bl
      · have t3 : (2000 : Int) < (bl : Int) := by omega
        go_wp2
        go_ret
        exact ⟨rfl, hL.below⟩
      · have t3 : (bl : Int) ≤ 2000 := by omega
        have hpf := fun w => place_any file 2 w (by decide) (by decide)
        obtain ⟨f0, f1⟩ := place_bd file 2 (by decide)
        generalize place file 2 = f at *
        obtain ⟨p0, p1⟩ := place_bd kind 3 (by decide)
        have hpl := fun w => place_any kind 3 w (by decide) (by decide)
        generalize place kind 3 = p at *
        rcases (show p = 0 ∨ p = 1 ∨ p = 2 by omega) with rfl | rfl | rfl
        · have HN : Hid (∀ j, j < 2 → (appSt σ f bs j).2.length ≤ 2001 * (k + 1) ∧ (now (appSt σ f bs) j).length ≤ 2001 * (k + 1)) := fun j hj => by have := app_us σ f bs j; have := app_now σ f bs j; have := HB.out j hj; have := row.len; omega
          go_wp2_with (first
            | (go_at_call_of 19 kind; refine (hpl _).mono ?_; rintro e w' ⟨rfl, hw⟩; rw [hw])
            | (go_at_call_of 19 file; refine (hpf _).mono ?_; rintro e w' ⟨rfl, hw⟩; rw [hw])
            | (go_at_call 13; refine (lone_append (hL.later hb5) (by omega) f _ _ _ _ hr5 hn5 (by omega)).mono ?_; rintro e w6 ⟨rfl, h6⟩)
            | (go_at_call 14; refine (copy_any ba bl bcap bs _ row (by omega) nil).mono ?_; rintro e w5 ⟨a5, cap5, rfl, hr5, ho5, hb5⟩; have hn5 := (owns_row ho5 hr5.small).2.1))
          go_roundw
          case rel => exact ⟨k + 1, _, by omega, by omega, by go_num, h6, HN⟩
          case measure => simp [intOf]; omega
        · have hLd := hL.drew
          have cS := size_step hLd f
          have hb := hL.readBound f
          have cP := place_step n ((readOf σ f).length + 1) wr.drew (by omega) (by omega)
          have cC := cut_step hLd (by omega) f (place n ((readOf σ f).length + 1))
          have HN : Hid (∀ j, j < 2 → (cutSt σ f (place n ((readOf σ f).length + 1)) j).2.length ≤ 2001 * (k + 1) ∧ (now (cutSt σ f (place n ((readOf σ f).length + 1))) j).length ≤ 2001 * (k + 1)) := fun j hj => by have := cut_us σ f (place n ((readOf σ f).length + 1)) j; have := cut_now σ f (place n ((readOf σ f).length + 1)) j; have := HB.out j hj; omega
          clear hLd
          generalize place n ((readOf σ f).length + 1) = s at *
          have hb' : ((readOf σ f).length : Int) ≤ 16777216 := by omega
          generalize hq : (readOf σ f).length = q at cS cP hb'
          clear hq
          have HW : Hid (IntKind.i64.wrap ((q : Int) + 1) = (q : Int) + 1) := show _ = _ from by rw [IntKind.wrap_i64]; omega
          go_wp2_with (first
            | (go_at_call_of 19 kind; refine (hpl _).mono ?_; rintro e w' ⟨rfl, hw⟩; rw [hw])
            | (go_at_call_of 19 file; refine (hpf _).mono ?_; rintro e w' ⟨rfl, hw⟩; rw [hw]))
          go_region_law (first
            | (refine step_fn 20 rfl rfl #[.pointer (some ⟨wA.heap.size, 0, none⟩), .int .i64 f, .int .i64 s] (by go_simp) _ cC ?_; rintro v w4 ⟨rfl, h4⟩)
            | (refine step_fn 19 rfl rfl #[.int .i64 n, .int .i64 ((q : Int) + 1)] (by go_simp; exact HW.out) _ cP ?_; rintro v w4 ⟨rfl, rfl⟩)
            | (refine step_fn 21 rfl rfl #[.pointer (some ⟨wA.heap.size, 0, none⟩), .int .i64 f] (by go_simp) _ cS ?_; rintro v w4 ⟨rfl, rfl⟩))
          all_goals
            go_wp2
            go_roundw
            case rel => exact ⟨k + 1, _, by omega, by omega, by go_num, h4, HN⟩
            case measure => simp [intOf]; omega
        · have HN : Hid (∀ j, j < 2 → (syncSt σ f j).2.length ≤ 2001 * (k + 1) ∧ (now (syncSt σ f) j).length ≤ 2001 * (k + 1)) := fun j hj => by have := sync_us σ f j; have := sync_now σ f j; have := HB.out j hj; omega
          go_wp2_with (first
            | (go_at_call_of 19 kind; refine (hpl _).mono ?_; rintro e w' ⟨rfl, hw⟩; rw [hw])
            | (go_at_call_of 19 file; refine (hpf _).mono ?_; rintro e w' ⟨rfl, hw⟩; rw [hw])
            | (go_at_call 15; refine (lone_sync hL (by omega) f).mono ?_; rintro e w4 ⟨rfl, h4⟩))
          go_roundw
          case rel => exact ⟨k + 1, _, by omega, by omega, by go_num, h4, HN⟩
          case measure => simp [intOf]; omega
    · have hcase : (k : Int) < (sl : Int) ∧ ¬ (k : Int) < 30 ∨ ¬ (k : Int) < (sl : Int) := by omega
      obtain ⟨A0, l0, s0, r0, HA0⟩ : ∃ A0 l0 s0, Hid (readOf σ 0 = A0) ∧ Hid (Str A0 l0 s0) := ⟨_, _, _, rfl, str_of _⟩
      obtain ⟨A1, l1, s1, r1, HA1⟩ : ∃ A1 l1 s1, Hid (readOf σ 1 = A1) ∧ Hid (Str A1 l1 s1) := ⟨_, _, _, rfl, str_of _⟩
      rcases hcase with ⟨q1, q2⟩ | q1
      · go_wp2_with fail
        go_cut [8] (fun p8 wc => ∃ b, p8 = .pointer (some ⟨b, 0, none⟩) ∧ Lone w wc wA.heap.size σ k ∧ wc.cell? ⟨b, 0, none⟩ = some (.string s0) ∧ wc.cell? ⟨b, 1, none⟩ = some (.string s1))
        case first =>
          refine start_since 9 rfl (by kernel_rfl) ?_
          have hS := (Since.refl wr).drew
          refine take_since 0 (by assumption) rfl (by kernel_rfl) (by kernel_rfl) (by kernel_rfl) (fun _ _ _ h => h) (by kernel_rfl) (v := ?v0) ?y0 ?r0
          case y0 => (intro u hu; go_simp; try rfl)
          simp only [Act.put, List.setIfInBounds_toArray, List.set_cons_zero, List.set_cons_succ]
          refine take_since 3 (by assumption) rfl (by kernel_rfl) (by kernel_rfl) (by kernel_rfl) (fun _ _ _ h => h) (by kernel_rfl) (v := ?v1) ?y1 ?r1
          case y1 => (intro u hu; go_simp; try rfl)
          simp only [Act.put, List.setIfInBounds_toArray, List.set_cons_zero, List.set_cons_succ]
          refine wpAnyH_ready (rs := [1, 7]) (by kernel_rfl) (by simp) (AllReadyH.cons ((nth_eq _ 1).trans rfl) ?_ (AllReadyH.cons ((nth_eq _ 7).trans rfl) ?_ AllReadyH.nil))
          · intro K' hK
            refine call_in hK (by kernel_rfl) 17 #[.pointer (some ⟨wA.heap.size, 0, none⟩), .int .i64 0] (by go_simp) _ (read_step hL.drew (by omega) 0 A0 l0 r0.out HA0.out.len) ?_
            rintro v w1 ⟨a1, cap1, rfl, hr1, hb1⟩
            refine ⟨hS.on hb1, rebase (hS.on hb1) ?_⟩
            simp only [Act.put, List.setIfInBounds_toArray, List.set_cons_zero, List.set_cons_succ]
            have hS1 := Since.refl w1
            have k1 : ∀ u, Since w1 u → (convert 28 9 (.slice a1 l0 cap1)).run Try.prog u = .ok (.string s0) u := fun u hu => by have := conv_row (hr1.after hu) cap1; rwa [← HA0.out.str] at this
            refine take_since 2 (by assumption) rfl (by kernel_rfl) (by kernel_rfl) (by kernel_rfl) (fun _ _ _ h => h) (by kernel_rfl) (v := ?v2) ?y2 ?r2
            case y2 => (intro u hu; have := k1 u hu; go_simp; try rfl)
            simp only [Act.put, List.setIfInBounds_toArray, List.set_cons_zero, List.set_cons_succ]
            refine wpAnyH_ready (rs := [4, 7]) (by kernel_rfl) (by simp) (AllReadyH.cons ((nth_eq _ 4).trans rfl) ?_ (AllReadyH.cons ((nth_eq _ 7).trans rfl) ?_ AllReadyH.nil))
            · intro K' hK
              refine call_in hK (by kernel_rfl) 17 #[.pointer (some ⟨wA.heap.size, 0, none⟩), .int .i64 1] (by go_simp) _ (read_step (hL.drew.later hb1) (by omega) 1 A1 l1 r1.out HA1.out.len) ?_
              rintro v w2 ⟨a2, cap2, rfl, hr2, hb2⟩
              refine ⟨hS1.on hb2, rebase (hS1.on hb2) ?_⟩
              simp only [Act.put, List.setIfInBounds_toArray, List.set_cons_zero, List.set_cons_succ]
              have hS2 := Since.refl w2
              have k2 : ∀ u, Since w2 u → (convert 28 9 (.slice a2 l1 cap2)).run Try.prog u = .ok (.string s1) u := fun u hu => by have := conv_row (hr2.after hu) cap2; rwa [← HA1.out.str] at this
              refine take_since 5 (by assumption) rfl (by kernel_rfl) (by kernel_rfl) (by kernel_rfl) (fun _ _ _ h => h) (by kernel_rfl) (v := ?v3) ?y3 ?r3
              case y3 => (intro u hu; have := k2 u hu; go_simp; try rfl)
              simp only [Act.put, List.setIfInBounds_toArray, List.set_cons_zero, List.set_cons_succ]
              refine take_since 6 (by assumption) rfl (by kernel_rfl) (by kernel_rfl) (by kernel_rfl) (fun _ _ _ h => h) (by kernel_rfl) (v := ?v4) ?y4 ?r4
              case y4 => (intro u hu; go_simp; try rfl)
              simp only [Act.put, List.setIfInBounds_toArray, List.set_cons_zero, List.set_cons_succ]
              refine wpAnyH_ready (rs := [7]) (by kernel_rfl) (by simp) (AllReadyH.cons ((nth_eq _ 7).trans rfl) ?_ AllReadyH.nil)
              intro K' hK
              refine value_in hK (by kernel_rfl) (.pointer (some ⟨w2.heap.size, 0, none⟩)) (w2.alloc (.cells #[.string ⟨#[]⟩, .string ⟨#[]⟩] 45)) (by go_simp) (hS2.on ((Below.refl _ _).alloc (Nat.le_refl _) _)) ?_
              simp only [Act.put, List.setIfInBounds_toArray, List.set_cons_zero, List.set_cons_succ]
              refine wpAnyH_ready (rs := [8]) (by kernel_rfl) (by simp) (AllReadyH.cons ((nth_eq _ 8).trans rfl) ?_ AllReadyH.nil)
              intro K' hK
              refine skip_in hK (by kernel_rfl) (w2.alloc (.cells #[.string s0, .string s1] 45)) (by go_simp) (hS2.on ((Below.refl _ _).alloc (Nat.le_refl _) _)) ?_
              simp only [Act.put, List.setIfInBounds_toArray, List.set_cons_zero, List.set_cons_succ]
              refine done_since (by kernel_rfl) ?_ _
              go_wp2_with fail
              go_meet
              exact ⟨w2.heap.size, rfl, ((hL.drew.later hb1).later hb2).alloc _, cell_of_row _ _ 0 _ _ _ (heap_alloc_new w2 _), cell_of_row _ _ 1 _ _ _ (heap_alloc_new w2 _)⟩
            · intro K' hK
              refine value_in hK (by kernel_rfl) (.pointer (some ⟨w1.heap.size, 0, none⟩)) (w1.alloc (.cells #[.string ⟨#[]⟩, .string ⟨#[]⟩] 45)) (by go_simp) (hS1.on ((Below.refl _ _).alloc (Nat.le_refl _) _)) ?_
              simp only [Act.put, List.setIfInBounds_toArray, List.set_cons_zero, List.set_cons_succ]
              have hS3 : Since w1 (w1.alloc (.cells #[.string ⟨#[]⟩, .string ⟨#[]⟩] 45)) := hS1.on ((Below.refl _ _).alloc (Nat.le_refl _) _)
              have hrow := heap_alloc_new w1 (.cells #[.string ⟨#[]⟩, .string ⟨#[]⟩] 45)
              have z0 := cell_of_row _ _ 0 _ _ _ hrow
              have z1 := cell_of_row _ _ 1 _ _ _ hrow
              have y0 := frozen_of_row _ _ 0 _ _ hrow
              have y1 := frozen_of_row _ _ 1 _ _ hrow
              have hlt : w1.heap.size < (w1.alloc (.cells #[.string ⟨#[]⟩, .string ⟨#[]⟩] 45)).heap.size := by simp
              refine wpAnyH_ready (rs := [4]) (by kernel_rfl) (by simp) (AllReadyH.cons ((nth_eq _ 4).trans rfl) ?_ AllReadyH.nil)
              intro K' hK
              refine call_in hK (by kernel_rfl) 17 #[.pointer (some ⟨wA.heap.size, 0, none⟩), .int .i64 1] (by go_simp) _ (read_step ((hL.drew.later hb1).alloc _) (by omega) 1 A1 l1 r1.out HA1.out.len) ?_
              rintro v w2 ⟨a2, cap2, rfl, hr2, hb2⟩
              refine ⟨hS3.on hb2, ?_⟩
              simp only [Act.put, List.setIfInBounds_toArray, List.set_cons_zero, List.set_cons_succ]
              have hS4 : Since w1 w2 := hS3.on hb2
              have k2 : ∀ u, Since w2 u → (convert 28 9 (.slice a2 l1 cap2)).run Try.prog u = .ok (.string s1) u := fun u hu => by have := conv_row (hr2.after hu) cap2; rwa [← HA1.out.str] at this
              have k2' := k2 w2 (Since.refl w2)
              have g0 := (hb2.cell (p := ⟨w1.heap.size, 0, none⟩) hlt).trans z0
              have g1 := (hb2.cell (p := ⟨w1.heap.size, 1, none⟩) hlt).trans z1
              have e0 := (hb2.frozen (p := ⟨w1.heap.size, 0, none⟩) hlt).trans y0
              have e1 := (hb2.frozen (p := ⟨w1.heap.size, 1, none⟩) hlt).trans y1
              refine wpAnyH_ready (rs := [5]) (by kernel_rfl) (by simp) (AllReadyH.cons ((nth_eq _ 5).trans rfl) ?_ AllReadyH.nil)
              intro K' hK
              refine value_in hK (by kernel_rfl) (.string s1) w2 (by go_simp) (hS4) ?_
              simp only [Act.put, List.setIfInBounds_toArray, List.set_cons_zero, List.set_cons_succ]
              refine take_since 6 (by assumption) rfl (by kernel_rfl) (by kernel_rfl) (by kernel_rfl) (fun _ _ _ h => h) (by kernel_rfl) (v := ?v5) ?y5 ?r5
              case y5 => (intro u hu; go_simp; try rfl)
              simp only [Act.put, List.setIfInBounds_toArray, List.set_cons_zero, List.set_cons_succ]
              refine wpAnyH_ready (rs := [8]) (by kernel_rfl) (by simp) (AllReadyH.cons ((nth_eq _ 8).trans rfl) ?_ AllReadyH.nil)
              intro K' hK
              refine skip_in hK (by kernel_rfl) ((w2.setCell ⟨w1.heap.size, 0, none⟩ (.string s0)).setCell ⟨w1.heap.size, 1, none⟩ (.string s1)) (by go_simp) (Below.setCell (Below.setCell hS4 (p := ⟨w1.heap.size, 0, none⟩) (Nat.le_refl _) _) (p := ⟨w1.heap.size, 1, none⟩) (Nat.le_refl _) _) ?_
              simp only [Act.put, List.setIfInBounds_toArray, List.set_cons_zero, List.set_cons_succ]
              refine done_since (by kernel_rfl) ?_ _
              go_wp2_with fail
              go_meet
              exact ⟨w1.heap.size, rfl, (hL.drew.later hb1).later (Below.setCell (Below.setCell hS4 (p := ⟨w1.heap.size, 0, none⟩) (Nat.le_refl _) _) (p := ⟨w1.heap.size, 1, none⟩) (Nat.le_refl _) _), two_cell0 g0, two_cell1 g1⟩
          · intro K' hK
            refine value_in hK (by kernel_rfl) (.pointer (some ⟨wr.drew.heap.size, 0, none⟩)) (wr.drew.alloc (.cells #[.string ⟨#[]⟩, .string ⟨#[]⟩] 45)) (by go_simp) (hS.on ((Below.refl _ _).alloc (Nat.le_refl _) _)) ?_
            simp only [Act.put, List.setIfInBounds_toArray, List.set_cons_zero, List.set_cons_succ]
            have hS3 : Since wr (wr.drew.alloc (.cells #[.string ⟨#[]⟩, .string ⟨#[]⟩] 45)) := hS.on ((Below.refl _ _).alloc (Nat.le_refl _) _)
            have hrow := heap_alloc_new wr.drew (.cells #[.string ⟨#[]⟩, .string ⟨#[]⟩] 45)
            have z0 := cell_of_row _ _ 0 _ _ _ hrow
            have z1 := cell_of_row _ _ 1 _ _ _ hrow
            have y0 := frozen_of_row _ _ 0 _ _ hrow
            have y1 := frozen_of_row _ _ 1 _ _ hrow
            have hlt : wr.heap.size < (wr.drew.alloc (.cells #[.string ⟨#[]⟩, .string ⟨#[]⟩] 45)).heap.size := by simp
            refine wpAnyH_ready (rs := [1]) (by kernel_rfl) (by simp) (AllReadyH.cons ((nth_eq _ 1).trans rfl) ?_ AllReadyH.nil)
            intro K' hK
            refine call_in hK (by kernel_rfl) 17 #[.pointer (some ⟨wA.heap.size, 0, none⟩), .int .i64 0] (by go_simp) _ (read_step (hL.drew.alloc _) (by omega) 0 A0 l0 r0.out HA0.out.len) ?_
            rintro v w1 ⟨a1, cap1, rfl, hr1, hb1⟩
            refine ⟨hS3.on hb1, ?_⟩
            simp only [Act.put, List.setIfInBounds_toArray, List.set_cons_zero, List.set_cons_succ]
            have hS4 : Since wr w1 := hS3.on hb1
            have k1 : ∀ u, Since w1 u → (convert 28 9 (.slice a1 l0 cap1)).run Try.prog u = .ok (.string s0) u := fun u hu => by have := conv_row (hr1.after hu) cap1; rwa [← HA0.out.str] at this
            have k1' := k1 w1 (Since.refl w1)
            have z2 := (hb1.cell (p := ⟨wr.heap.size, 0, none⟩) hlt).trans z0
            have z3 := (hb1.cell (p := ⟨wr.heap.size, 1, none⟩) hlt).trans z1
            have y2 := (hb1.frozen (p := ⟨wr.heap.size, 0, none⟩) hlt).trans y0
            have y3 := (hb1.frozen (p := ⟨wr.heap.size, 1, none⟩) hlt).trans y1
            have hlt1 : wr.heap.size < w1.heap.size := Nat.lt_of_lt_of_le hlt hb1.size
            refine wpAnyH_ready (rs := [2, 4]) (by kernel_rfl) (by simp) (AllReadyH.cons ((nth_eq _ 2).trans rfl) ?_ (AllReadyH.cons ((nth_eq _ 4).trans rfl) ?_ AllReadyH.nil))
            · intro K' hK
              refine value_in hK (by kernel_rfl) (.string s0) w1 (by go_simp) (hS4) ?_
              simp only [Act.put, List.setIfInBounds_toArray, List.set_cons_zero, List.set_cons_succ]
              refine wpAnyH_ready (rs := [4]) (by kernel_rfl) (by simp) (AllReadyH.cons ((nth_eq _ 4).trans rfl) ?_ AllReadyH.nil)
              intro K' hK
              refine call_in hK (by kernel_rfl) 17 #[.pointer (some ⟨wA.heap.size, 0, none⟩), .int .i64 1] (by go_simp) _ (read_step ((hL.drew.alloc _).later hb1) (by omega) 1 A1 l1 r1.out HA1.out.len) ?_
              rintro v w2 ⟨a2, cap2, rfl, hr2, hb2⟩
              refine ⟨hS4.on hb2, ?_⟩
              simp only [Act.put, List.setIfInBounds_toArray, List.set_cons_zero, List.set_cons_succ]
              have hS5 : Since wr w2 := hS4.on hb2
              have k2 : ∀ u, Since w2 u → (convert 28 9 (.slice a2 l1 cap2)).run Try.prog u = .ok (.string s1) u := fun u hu => by have := conv_row (hr2.after hu) cap2; rwa [← HA1.out.str] at this
              have k2' := k2 w2 (Since.refl w2)
              have k1'' := k1 w2 hb2
              have g0 := (hb2.cell (p := ⟨wr.heap.size, 0, none⟩) hlt1).trans z2
              have g1 := (hb2.cell (p := ⟨wr.heap.size, 1, none⟩) hlt1).trans z3
              have e0 := (hb2.frozen (p := ⟨wr.heap.size, 0, none⟩) hlt1).trans y2
              have e1 := (hb2.frozen (p := ⟨wr.heap.size, 1, none⟩) hlt1).trans y3
              refine wpAnyH_ready (rs := [5]) (by kernel_rfl) (by simp) (AllReadyH.cons ((nth_eq _ 5).trans rfl) ?_ AllReadyH.nil)
              intro K' hK
              refine value_in hK (by kernel_rfl) (.string s1) w2 (by go_simp) (hS5) ?_
              simp only [Act.put, List.setIfInBounds_toArray, List.set_cons_zero, List.set_cons_succ]
              refine take_since 6 (by assumption) rfl (by kernel_rfl) (by kernel_rfl) (by kernel_rfl) (fun _ _ _ h => h) (by kernel_rfl) (v := ?v6) ?y6 ?r6
              case y6 => (intro u hu; go_simp; try rfl)
              simp only [Act.put, List.setIfInBounds_toArray, List.set_cons_zero, List.set_cons_succ]
              refine wpAnyH_ready (rs := [8]) (by kernel_rfl) (by simp) (AllReadyH.cons ((nth_eq _ 8).trans rfl) ?_ AllReadyH.nil)
              intro K' hK
              refine skip_in hK (by kernel_rfl) ((w2.setCell ⟨wr.heap.size, 0, none⟩ (.string s0)).setCell ⟨wr.heap.size, 1, none⟩ (.string s1)) (by go_simp) (Below.setCell (Below.setCell hS5 (p := ⟨wr.heap.size, 0, none⟩) (Nat.le_refl _) _) (p := ⟨wr.heap.size, 1, none⟩) (Nat.le_refl _) _) ?_
              simp only [Act.put, List.setIfInBounds_toArray, List.set_cons_zero, List.set_cons_succ]
              refine done_since (by kernel_rfl) ?_ _
              go_wp2_with fail
              go_meet
              exact ⟨wr.heap.size, rfl, hL.later (Below.setCell (Below.setCell hS5 (p := ⟨wr.heap.size, 0, none⟩) (Nat.le_refl _) _) (p := ⟨wr.heap.size, 1, none⟩) (Nat.le_refl _) _), two_cell0 g0, two_cell1 g1⟩
            · intro K' hK
              refine call_in hK (by kernel_rfl) 17 #[.pointer (some ⟨wA.heap.size, 0, none⟩), .int .i64 1] (by go_simp) _ (read_step ((hL.drew.alloc _).later hb1) (by omega) 1 A1 l1 r1.out HA1.out.len) ?_
              rintro v w2 ⟨a2, cap2, rfl, hr2, hb2⟩
              refine ⟨hS4.on hb2, ?_⟩
              simp only [Act.put, List.setIfInBounds_toArray, List.set_cons_zero, List.set_cons_succ]
              have hS5 : Since wr w2 := hS4.on hb2
              have k2 : ∀ u, Since w2 u → (convert 28 9 (.slice a2 l1 cap2)).run Try.prog u = .ok (.string s1) u := fun u hu => by have := conv_row (hr2.after hu) cap2; rwa [← HA1.out.str] at this
              have k2' := k2 w2 (Since.refl w2)
              have k1'' := k1 w2 hb2
              have g0 := (hb2.cell (p := ⟨wr.heap.size, 0, none⟩) hlt1).trans z2
              have g1 := (hb2.cell (p := ⟨wr.heap.size, 1, none⟩) hlt1).trans z3
              have e0 := (hb2.frozen (p := ⟨wr.heap.size, 0, none⟩) hlt1).trans y2
              have e1 := (hb2.frozen (p := ⟨wr.heap.size, 1, none⟩) hlt1).trans y3
              refine wpAnyH_ready (rs := [2, 5]) (by kernel_rfl) (by simp) (AllReadyH.cons ((nth_eq _ 2).trans rfl) ?_ (AllReadyH.cons ((nth_eq _ 5).trans rfl) ?_ AllReadyH.nil))
              · intro K' hK
                refine value_in hK (by kernel_rfl) (.string s0) w2 (by go_simp) (hS5) ?_
                simp only [Act.put, List.setIfInBounds_toArray, List.set_cons_zero, List.set_cons_succ]
                refine wpAnyH_ready (rs := [5]) (by kernel_rfl) (by simp) (AllReadyH.cons ((nth_eq _ 5).trans rfl) ?_ AllReadyH.nil)
                intro K' hK
                refine value_in hK (by kernel_rfl) (.string s1) w2 (by go_simp) (hS5) ?_
                simp only [Act.put, List.setIfInBounds_toArray, List.set_cons_zero, List.set_cons_succ]
                refine take_since 6 (by assumption) rfl (by kernel_rfl) (by kernel_rfl) (by kernel_rfl) (fun _ _ _ h => h) (by kernel_rfl) (v := ?v7) ?y7 ?r7
                case y7 => (intro u hu; go_simp; try rfl)
                simp only [Act.put, List.setIfInBounds_toArray, List.set_cons_zero, List.set_cons_succ]
                refine wpAnyH_ready (rs := [8]) (by kernel_rfl) (by simp) (AllReadyH.cons ((nth_eq _ 8).trans rfl) ?_ AllReadyH.nil)
                intro K' hK
                refine skip_in hK (by kernel_rfl) ((w2.setCell ⟨wr.heap.size, 0, none⟩ (.string s0)).setCell ⟨wr.heap.size, 1, none⟩ (.string s1)) (by go_simp) (Below.setCell (Below.setCell hS5 (p := ⟨wr.heap.size, 0, none⟩) (Nat.le_refl _) _) (p := ⟨wr.heap.size, 1, none⟩) (Nat.le_refl _) _) ?_
                simp only [Act.put, List.setIfInBounds_toArray, List.set_cons_zero, List.set_cons_succ]
                refine done_since (by kernel_rfl) ?_ _
                go_wp2_with fail
                go_meet
                exact ⟨wr.heap.size, rfl, hL.later (Below.setCell (Below.setCell hS5 (p := ⟨wr.heap.size, 0, none⟩) (Nat.le_refl _) _) (p := ⟨wr.heap.size, 1, none⟩) (Nat.le_refl _) _), two_cell0 g0, two_cell1 g1⟩
              · intro K' hK
                refine value_in hK (by kernel_rfl) (.string s1) w2 (by go_simp) (hS5) ?_
                simp only [Act.put, List.setIfInBounds_toArray, List.set_cons_zero, List.set_cons_succ]
                refine wpAnyH_ready (rs := [2]) (by kernel_rfl) (by simp) (AllReadyH.cons ((nth_eq _ 2).trans rfl) ?_ AllReadyH.nil)
                intro K' hK
                refine value_in hK (by kernel_rfl) (.string s0) w2 (by go_simp) (hS5) ?_
                simp only [Act.put, List.setIfInBounds_toArray, List.set_cons_zero, List.set_cons_succ]
                refine take_since 6 (by assumption) rfl (by kernel_rfl) (by kernel_rfl) (by kernel_rfl) (fun _ _ _ h => h) (by kernel_rfl) (v := ?v8) ?y8 ?r8
                case y8 => (intro u hu; go_simp; try rfl)
                simp only [Act.put, List.setIfInBounds_toArray, List.set_cons_zero, List.set_cons_succ]
                refine wpAnyH_ready (rs := [8]) (by kernel_rfl) (by simp) (AllReadyH.cons ((nth_eq _ 8).trans rfl) ?_ AllReadyH.nil)
                intro K' hK
                refine skip_in hK (by kernel_rfl) ((w2.setCell ⟨wr.heap.size, 0, none⟩ (.string s0)).setCell ⟨wr.heap.size, 1, none⟩ (.string s1)) (by go_simp) (Below.setCell (Below.setCell hS5 (p := ⟨wr.heap.size, 0, none⟩) (Nat.le_refl _) _) (p := ⟨wr.heap.size, 1, none⟩) (Nat.le_refl _) _) ?_
                simp only [Act.put, List.setIfInBounds_toArray, List.set_cons_zero, List.set_cons_succ]
                refine done_since (by kernel_rfl) ?_ _
                go_wp2_with fail
                go_meet
                exact ⟨wr.heap.size, rfl, hL.later (Below.setCell (Below.setCell hS5 (p := ⟨wr.heap.size, 0, none⟩) (Nat.le_refl _) _) (p := ⟨wr.heap.size, 1, none⟩) (Nat.le_refl _) _), two_cell0 g0, two_cell1 g1⟩
        case rest =>
          obtain ⟨b, rfl, hLc, cb0, cb1⟩ := hcut
          have hB0 := HB.out 0 (by decide)
          have hB1 := HB.out 1 (by decide)
          have hM0 : Hid (readOf (crashSt σ 16777216 16777216) 0 = A0) := show _ = _ from by
            have := read_all σ 0 (by decide) 16777216 (by show _ ≤ 16777216; omega)
            exact this.trans r0.out
          have hM1 : Hid (readOf (crashSt σ 16777216 16777216) 1 = A1) := show _ = _ from by
            have := read_all σ 1 (by decide) 16777216 (by show _ ≤ 16777216; omega)
            exact this.trans r1.out
          have hl0 : l0 ≤ 60030 := by
            have h1 := HA0.out.len
            have h2 : readOf σ 0 = now σ 0 := read_len σ 0 (by decide)
            rw [← r0.out, h2] at h1
            omega
          have hbl := World.block_lt_of_cell? wc _ cb0
          clear hL HB hB0 hB1 h2 cA ho
          go_wp2_with (go_at_call 16; refine (lone_crash hLc (by omega) 16777216 16777216 (by decide) (by decide)).mono ?_; rintro e w3 ⟨X, rfl, h3⟩)
          have cl0 : ∀ u, Since w3 u → u.cell? ⟨b, 0, none⟩ = some (.string s0) := fun u hu => ((h3.below.trans (Below.mono hu h3.below.size)).cell (p := ⟨b, 0, none⟩) hbl).trans cb0
          have cl1 : ∀ u, Since w3 u → u.cell? ⟨b, 1, none⟩ = some (.string s1) := fun u hu => ((h3.below.trans (Below.mono hu h3.below.size)).cell (p := ⟨b, 1, none⟩) hbl).trans cb1
          have hS := (Since.refl w3).drew
          refine start_since 18 rfl (by kernel_rfl) ?_
          refine take_since 0 (by assumption) rfl (by kernel_rfl) (by kernel_rfl) (by kernel_rfl) (fun _ _ _ h => h) (by kernel_rfl) (v := ?v9) ?y9 ?r9
          case y9 => (intro u hu; go_simp; try rfl)
          simp only [Act.put, List.setIfInBounds_toArray, List.set_cons_zero, List.set_cons_succ]
          refine take_since 1 (by assumption) rfl (by kernel_rfl) (by kernel_rfl) (by kernel_rfl) (fun _ _ _ h => h) (by kernel_rfl) (v := ?v10) ?y10 ?r10
          case y10 => (intro u hu; go_simp; try rfl)
          simp only [Act.put, List.setIfInBounds_toArray, List.set_cons_zero, List.set_cons_succ]
          refine take_since 2 (by assumption) rfl (by kernel_rfl) (by kernel_rfl) (by kernel_rfl) (fun _ _ _ h => h) (by kernel_rfl) (v := ?v11) ?y11 ?r11
          case y11 => (intro u hu; go_simp; try rfl)
          simp only [Act.put, List.setIfInBounds_toArray, List.set_cons_zero, List.set_cons_succ]
          refine take_since 3 (by assumption) rfl (by kernel_rfl) (by kernel_rfl) (by kernel_rfl) (fun _ _ _ h => h) (by kernel_rfl) (v := ?v12) ?y12 ?r12
          case y12 => (intro u hu; go_simp; try rfl)
          simp only [Act.put, List.setIfInBounds_toArray, List.set_cons_zero, List.set_cons_succ]
          refine take_since 6 (by assumption) rfl (by kernel_rfl) (by kernel_rfl) (by kernel_rfl) (fun _ _ _ h => h) (by kernel_rfl) (v := ?v13) ?y13 ?r13
          case y13 => (intro u hu; go_simp; try rfl)
          simp only [Act.put, List.setIfInBounds_toArray, List.set_cons_zero, List.set_cons_succ]
          refine take_since 7 (by assumption) rfl (by kernel_rfl) (by kernel_rfl) (by kernel_rfl) (fun _ _ _ h => h) (by kernel_rfl) (v := ?v14) ?y14 ?r14
          case y14 => (intro u hu; have := cl0 u hu; go_simp; try rfl)
          simp only [Act.put, List.setIfInBounds_toArray, List.set_cons_zero, List.set_cons_succ]
          refine wpAnyH_ready (rs := [4]) (by kernel_rfl) (by simp) (AllReadyH.cons ((nth_eq _ 4).trans rfl) ?_ AllReadyH.nil)
          intro K' hK
          refine call_in hK (by kernel_rfl) 17 #[.pointer (some ⟨X, 0, none⟩), .int .i64 0] (by go_simp) _ (read_step h3.drew (by decide) 0 A0 l0 hM0.out HA0.out.len) ?_
          rintro v w4 ⟨a4, cap4, rfl, hr4, hb4⟩
          refine ⟨hS.on hb4, rebase (hS.on hb4) ?_⟩
          simp only [Act.put, List.setIfInBounds_toArray, List.set_cons_zero, List.set_cons_succ]
          have S4 : Since w3 w4 := hS.on hb4
          have hS4 := Since.refl w4
          have cl1' : ∀ u, Since w4 u → u.cell? ⟨b, 1, none⟩ = some (.string s1) := fun u hu => cl1 u (S4.on hu)
          have k4 : ∀ u, Since w4 u → (convert 28 9 (.slice a4 l0 cap4)).run Try.prog u = .ok (.string s0) u := fun u hu => by have := conv_row (hr4.after hu) cap4; rwa [← HA0.out.str] at this
          refine take_since 5 (by assumption) rfl (by kernel_rfl) (by kernel_rfl) (by kernel_rfl) (fun _ _ _ h => h) (by kernel_rfl) (v := ?v15) ?y15 ?r15
          case y15 => (intro u hu; have := k4 u hu; go_simp; try rfl)
          simp only [Act.put, List.setIfInBounds_toArray, List.set_cons_zero, List.set_cons_succ]
          refine take_since 8 (by assumption) rfl (by kernel_rfl) (by kernel_rfl) (by kernel_rfl) (fun _ _ _ h => h) (by kernel_rfl) (v := ?v16) ?y16 ?r16
          case y16 => (intro u hu; go_simp; try rfl)
          simp only [Act.put, List.setIfInBounds_toArray, List.set_cons_zero, List.set_cons_succ]
          refine take_since 9 (by assumption) rfl (by kernel_rfl) (by kernel_rfl) (by kernel_rfl) (fun _ _ _ h => h) (by kernel_rfl) (v := ?v17) ?y17 ?r17
          case y17 => (intro u hu; go_simp; try rfl)
          simp only [Act.put, List.setIfInBounds_toArray, List.set_cons_zero, List.set_cons_succ]
          refine take_since 10 (by assumption) rfl (by kernel_rfl) (by kernel_rfl) (by kernel_rfl) (fun _ _ _ h => h) (by kernel_rfl) (v := ?v18) ?y18 ?r18
          case y18 => (intro u hu; go_simp; try rfl)
          simp only [Act.put, List.setIfInBounds_toArray, List.set_cons_zero, List.set_cons_succ]
          refine take_since 11 (by assumption) rfl (by kernel_rfl) (by kernel_rfl) (by kernel_rfl) (fun _ _ _ h => h) (by kernel_rfl) (v := ?v19) ?y19 ?r19
          case y19 => (intro u hu; go_simp; try rfl)
          simp only [Act.put, List.setIfInBounds_toArray, List.set_cons_zero, List.set_cons_succ]
          refine take_since 14 (by assumption) rfl (by kernel_rfl) (by kernel_rfl) (by kernel_rfl) (fun _ _ _ h => h) (by kernel_rfl) (v := ?v20) ?y20 ?r20
          case y20 => (intro u hu; go_simp; try rfl)
          simp only [Act.put, List.setIfInBounds_toArray, List.set_cons_zero, List.set_cons_succ]
          refine take_since 15 (by assumption) rfl (by kernel_rfl) (by kernel_rfl) (by kernel_rfl) (fun _ _ _ h => h) (by kernel_rfl) (v := ?v21) ?y21 ?r21
          case y21 => (intro u hu; have := cl1' u hu; go_simp; try rfl)
          simp only [Act.put, List.setIfInBounds_toArray, List.set_cons_zero, List.set_cons_succ]
          refine wpAnyH_ready (rs := [12]) (by kernel_rfl) (by simp) (AllReadyH.cons ((nth_eq _ 12).trans rfl) ?_ AllReadyH.nil)
          intro K' hK
          refine call_in hK (by kernel_rfl) 17 #[.pointer (some ⟨X, 0, none⟩), .int .i64 1] (by go_simp) _ (read_step (h3.drew.later hb4) (by decide) 1 A1 l1 hM1.out HA1.out.len) ?_
          rintro v w5 ⟨a5, cap5, rfl, hr5, hb5⟩
          refine ⟨hS4.on hb5, rebase (hS4.on hb5) ?_⟩
          simp only [Act.put, List.setIfInBounds_toArray, List.set_cons_zero, List.set_cons_succ]
          have hS5 := Since.refl w5
          have k5 : ∀ u, Since w5 u → (convert 28 9 (.slice a5 l1 cap5)).run Try.prog u = .ok (.string s1) u := fun u hu => by have := conv_row (hr5.after hu) cap5; rwa [← HA1.out.str] at this
          refine take_since 13 (by assumption) rfl (by kernel_rfl) (by kernel_rfl) (by kernel_rfl) (fun _ _ _ h => h) (by kernel_rfl) (v := ?v22) ?y22 ?r22
          case y22 => (intro u hu; have := k5 u hu; go_simp; try rfl)
          simp only [Act.put, List.setIfInBounds_toArray, List.set_cons_zero, List.set_cons_succ]
          refine take_since 16 (by assumption) rfl (by kernel_rfl) (by kernel_rfl) (by kernel_rfl) (fun _ _ _ h => h) (by kernel_rfl) (v := ?v23) ?y23 ?r23
          case y23 => (intro u hu; go_simp; try rfl)
          simp only [Act.put, List.setIfInBounds_toArray, List.set_cons_zero, List.set_cons_succ]
          refine take_since 17 (by assumption) rfl (by kernel_rfl) (by kernel_rfl) (by kernel_rfl) (fun _ _ _ h => h) (by kernel_rfl) (v := ?v24) ?y24 ?r24
          case y24 => (intro u hu; go_simp; try rfl)
          simp only [Act.put, List.setIfInBounds_toArray, List.set_cons_zero, List.set_cons_succ]
          refine done_since (by kernel_rfl) ?_ _
          have h5 : Lone wc w5 X (crashSt σ 16777216 16777216) 0 := (h3.drew.later hb4).later hb5
          have B5 := (hLc.later h5.below).below
          have hm5 := hm.after B5
          obtain ⟨i0, hi, hz0, hz1, hz2⟩ := info_parts info5
          have hnX : (now (crashSt σ 16777216 16777216) 0).length = l0 := by
            have h1 := read_len (crashSt σ 16777216 16777216) 0 (by decide)
            rw [← h1]
            exact (congrArg List.length hM0.out).trans HA0.out.len
          have HNX : Hid ((now (crashSt σ 16777216 16777216) 0).length = l0) := hnX
          have RP : Hid (∀ (σ : St), readOf σ 0 = A0 → readOf (setSt (setSt σ 0 ((σ 0).1, (σ 0).2 ++ ms.map Sum.inl)) 1 ((setSt σ 0 ((σ 0).1, (σ 0).2 ++ ms.map Sum.inl) 1).1, (setSt σ 0 ((σ 0).1, (σ 0).2 ++ ms.map Sum.inl) 1).2 ++ [.inr 0])) 0 = A0 ++ ms) := fun σ h => by rw [read_put, h]
          clear hnX cl0 cl1 k4 k5 h3 hr4 hb4 hS4 hr5 hb5 hS5 S4 cl1' hS hM1 q1
          go_wp2_with (first
            | (go_at_call 17; refine (lone_read_of (hLc.later h8.below) (by omega) 0 A0 l0 r0.out HA0.out.len).mono ?_; rintro e w9 ⟨a9, cap9, rfl, ho9, hr9, hn9, hb9⟩)
            | (go_at_call 20; refine (lone_cut_ok h7 (by decide) 1 (by decide) 0 (Nat.zero_le _)).mono ?_; rintro e w8 ⟨rfl, h8⟩)
            | (go_at_call 13; refine (lone_append_ok (h5.later hb6) (by decide) 0 (by decide) _ _ _ _ hr6 hn6 (by have := HNX.out; omega)).mono ?_; rintro e w7 ⟨rfl, h7⟩)
            | (go_at_call 14; refine (copy_any ma ml mcap ms w5 hm5 (by omega) hmz).mono ?_; rintro e w6 ⟨a6, cap6, rfl, hr6, ho6, hb6⟩; have hn6 := (owns_row ho6 hr6.small).2.1))
          go_loopw [11] (fun i wx => ∃ (j : Nat) (ys : List Int), j ≤ l0 ∧ i = .int .i64 j ∧ wx.ownsRow w8.heap.size 5 1 (.slice a9 l0 cap9) l0 (ys.map (Value.int .u8)) ∧ Below w8.heap.size w8 wx) (fun i _ => l0 - (intOf i).toNat)
          case atStart => exact ⟨0, A0, Nat.zero_le _, rfl, ho9, hb9⟩
          case round =>
            obtain ⟨j, ys, hj, rfl, hox, hbx⟩ := hrel
            have hyl : ys.length = l0 := by have := hox.1; simpa using this
            by_cases hjl : j < l0
            · obtain ⟨g, rfl⟩ := own_at hox (by omega)
              have cj := hox.cellAt j (by omega)
              rw [List.getElem?_map, List.getElem?_eq_getElem (by omega)] at cj
              have fj := hox.frozenAt j
              have hst := fun u => (hox.stored j u).1
              have hgb := (hox.lt g rfl).1
              generalize ys[j] = z at cj
              simp only [Option.map_some] at cj
              have t1 : (j : Int) < (l0 : Int) := by omega
              have t0 : (0 : Int) ≤ (j : Int) := by omega
              have HST : Hid (∀ u, (wr.setCell ⟨g, j, none⟩ u).ownsRow w8.heap.size 5 1 (.slice (some ⟨g, 0, none⟩) l0 cap9) l0 ((ys.map (Value.int .u8)).set j u)) := hst
              clear hst
              go_wp2
              go_roundw
              case rel =>
                refine ⟨j + 1, ys.set j _, by omega, by go_num, by rw [List.map_set]; exact HST.out _, hbx.setCell (p := ⟨g, j, none⟩) hgb _⟩
              case measure => simp [intOf]; omega
            · have t1 : ¬ (j : Int) < (l0 : Int) := by omega
              go_wp2_with (at_builtin; refine wpList_append_own _ rfl (.tmp 128) (.tmp 129) 28 rfl w8.heap.size 5 i0 (.int .u8 0) 1 1 Try.underlying28 hi hz0 hz1 hz2 rfl (by decide) (.slice a9 l0 cap9) l0 (ys.map (Value.int .u8)) rfl (hox.alloc _) ⟨wr.heap.size, 0, none⟩ 1 1 [.int .u8 7] rfl rfl (cell_one_new _ _ _) (by simp [Value.oneCell']) (by unfold maxLen; omega) (by omega) (by have := hbx.size; simp; omega) ?_; intro v' w10 ho10 hg10 hnil10; obtain ⟨g', cap', rfl, _, _⟩ := ho10.form (by omega))
              have B10 : Below w8.heap.size w8 w10 := (hbx.alloc hbx.size _).grown hg10 (by have := hbx.size; simp; omega) fun q hq => (hox.lt q hq).1
              have hLd : Lone w w10 wA.heap.size σ k := (hLc.later h8.below).later B10
              have hLX := h8.later B10
              have B11 := hLd.below
              have hbX : Below wc.heap.size wc w10 := hLX.below
              obtain ⟨sM, HSM⟩ : ∃ sM, Hid (Str ms ml sM) := ⟨_, by have := str_of ms; rw [hm.len] at this; exact this⟩
              obtain ⟨AM, lm, sAM, HAM, HE⟩ : ∃ AM lm sAM, Hid (Str AM lm sAM) ∧ Hid (AM = A0 ++ ms) := ⟨_, _, _, str_of _, rfl⟩
              have kM : ∀ u, Since w10 u → (convert 28 9 (.slice ma ml mcap)).run Try.prog u = .ok (.string sM) u := fun u hu => by have := conv_row (hm.after (B11.trans (Below.mono hu B11.size))) mcap; rwa [← HSM.out.str] at this
              have aM : ∀ u, (Op.stringOp .add s0 sM).run Try.prog u = .ok (.string sAM) u := fun u => by
                rw [run_string_add_sum _ _ _ (by rw [HA0.out.size, HSM.out.size]; omega), HAM.out.str, HA0.out.str, HSM.out.str, HE.out, str_add]
              have cl0 : ∀ u, Since w10 u → u.cell? ⟨b, 0, none⟩ = some (.string s0) := fun u hu => ((hbX.trans (Below.mono hu hbX.size)).cell (p := ⟨b, 0, none⟩) hbl).trans cb0
              have cl1 : ∀ u, Since w10 u → u.cell? ⟨b, 1, none⟩ = some (.string s1) := fun u hu => ((hbX.trans (Below.mono hu hbX.size)).cell (p := ⟨b, 1, none⟩) hbl).trans cb1
              have hS := (Since.refl w10).drew
              clear hox hbx ho9 hr9 hb9 hg10 ho10 hr6 ho6 hb6 hm5 B5
              refine start_since 36 rfl (by kernel_rfl) ?_
              refine take_since 0 (by assumption) rfl (by kernel_rfl) (by kernel_rfl) (by kernel_rfl) (fun _ _ _ h => h) (by kernel_rfl) (v := ?v25) ?y25 ?r25
              case y25 => (intro u hu; go_simp; try rfl)
              simp only [Act.put, List.setIfInBounds_toArray, List.set_cons_zero, List.set_cons_succ]
              refine take_since 1 (by assumption) rfl (by kernel_rfl) (by kernel_rfl) (by kernel_rfl) (fun _ _ _ h => h) (by kernel_rfl) (v := ?v26) ?y26 ?r26
              case y26 => (intro u hu; go_simp; try rfl)
              simp only [Act.put, List.setIfInBounds_toArray, List.set_cons_zero, List.set_cons_succ]
              refine take_since 2 (by assumption) rfl (by kernel_rfl) (by kernel_rfl) (by kernel_rfl) (fun _ _ _ h => h) (by kernel_rfl) (v := ?v27) ?y27 ?r27
              case y27 => (intro u hu; go_simp; try rfl)
              simp only [Act.put, List.setIfInBounds_toArray, List.set_cons_zero, List.set_cons_succ]
              refine take_since 3 (by assumption) rfl (by kernel_rfl) (by kernel_rfl) (by kernel_rfl) (fun _ _ _ h => h) (by kernel_rfl) (v := ?v28) ?y28 ?r28
              case y28 => (intro u hu; go_simp; try rfl)
              simp only [Act.put, List.setIfInBounds_toArray, List.set_cons_zero, List.set_cons_succ]
              refine take_since 4 (by assumption) rfl (by kernel_rfl) (by kernel_rfl) (by kernel_rfl) (fun _ _ _ h => h) (by kernel_rfl) (v := ?v29) ?y29 ?r29
              case y29 => (intro u hu; go_simp; try rfl)
              simp only [Act.put, List.setIfInBounds_toArray, List.set_cons_zero, List.set_cons_succ]
              refine take_since 7 (by assumption) rfl (by kernel_rfl) (by kernel_rfl) (by kernel_rfl) (fun _ _ _ h => h) (by kernel_rfl) (v := ?v30) ?y30 ?r30
              case y30 => (intro u hu; go_simp; try rfl)
              simp only [Act.put, List.setIfInBounds_toArray, List.set_cons_zero, List.set_cons_succ]
              refine take_since 8 (by assumption) rfl (by kernel_rfl) (by kernel_rfl) (by kernel_rfl) (fun _ _ _ h => h) (by kernel_rfl) (v := ?v31) ?y31 ?r31
              case y31 => (intro u hu; have := cl0 u hu; go_simp; try rfl)
              simp only [Act.put, List.setIfInBounds_toArray, List.set_cons_zero, List.set_cons_succ]
              refine wpAnyH_ready (rs := [5]) (by kernel_rfl) (by simp) (AllReadyH.cons ((nth_eq _ 5).trans rfl) ?_ AllReadyH.nil)
              intro K' hK
              refine call_in hK (by kernel_rfl) 17 #[.pointer (some ⟨wA.heap.size, 0, none⟩), .int .i64 0] (by go_simp) _ (read_step hLd.drew (by omega) 0 A0 l0 r0.out HA0.out.len) ?_
              rintro v w11 ⟨a11, cap11, rfl, hr11, hb11⟩
              refine ⟨hS.on hb11, rebase (hS.on hb11) ?_⟩
              simp only [Act.put, List.setIfInBounds_toArray, List.set_cons_zero, List.set_cons_succ]
              have S11 : Since w10 w11 := hS.on hb11
              have hS11 := Since.refl w11
              have cl1' : ∀ u, Since w11 u → u.cell? ⟨b, 1, none⟩ = some (.string s1) := fun u hu => cl1 u (S11.on hu)
              have k11 : ∀ u, Since w11 u → (convert 28 9 (.slice a11 l0 cap11)).run Try.prog u = .ok (.string s0) u := fun u hu => by have := conv_row (hr11.after hu) cap11; rwa [← HA0.out.str] at this
              refine take_since 6 (by assumption) rfl (by kernel_rfl) (by kernel_rfl) (by kernel_rfl) (fun _ _ _ h => h) (by kernel_rfl) (v := ?v32) ?y32 ?r32
              case y32 => (intro u hu; have := k11 u hu; go_simp; try rfl)
              simp only [Act.put, List.setIfInBounds_toArray, List.set_cons_zero, List.set_cons_succ]
              refine take_since 9 (by assumption) rfl (by kernel_rfl) (by kernel_rfl) (by kernel_rfl) (fun _ _ _ h => h) (by kernel_rfl) (v := ?v33) ?y33 ?r33
              case y33 => (intro u hu; go_simp; try rfl)
              simp only [Act.put, List.setIfInBounds_toArray, List.set_cons_zero, List.set_cons_succ]
              refine take_since 10 (by assumption) rfl (by kernel_rfl) (by kernel_rfl) (by kernel_rfl) (fun _ _ _ h => h) (by kernel_rfl) (v := ?v34) ?y34 ?r34
              case y34 => (intro u hu; go_simp; try rfl)
              simp only [Act.put, List.setIfInBounds_toArray, List.set_cons_zero, List.set_cons_succ]
              refine take_since 11 (by assumption) rfl (by kernel_rfl) (by kernel_rfl) (by kernel_rfl) (fun _ _ _ h => h) (by kernel_rfl) (v := ?v35) ?y35 ?r35
              case y35 => (intro u hu; go_simp; try rfl)
              simp only [Act.put, List.setIfInBounds_toArray, List.set_cons_zero, List.set_cons_succ]
              refine take_since 12 (by assumption) rfl (by kernel_rfl) (by kernel_rfl) (by kernel_rfl) (fun _ _ _ h => h) (by kernel_rfl) (v := ?v36) ?y36 ?r36
              case y36 => (intro u hu; go_simp; try rfl)
              simp only [Act.put, List.setIfInBounds_toArray, List.set_cons_zero, List.set_cons_succ]
              refine take_since 15 (by assumption) rfl (by kernel_rfl) (by kernel_rfl) (by kernel_rfl) (fun _ _ _ h => h) (by kernel_rfl) (v := ?v37) ?y37 ?r37
              case y37 => (intro u hu; go_simp; try rfl)
              simp only [Act.put, List.setIfInBounds_toArray, List.set_cons_zero, List.set_cons_succ]
              refine take_since 16 (by assumption) rfl (by kernel_rfl) (by kernel_rfl) (by kernel_rfl) (fun _ _ _ h => h) (by kernel_rfl) (v := ?v38) ?y38 ?r38
              case y38 => (intro u hu; have := cl1' u hu; go_simp; try rfl)
              simp only [Act.put, List.setIfInBounds_toArray, List.set_cons_zero, List.set_cons_succ]
              refine wpAnyH_ready (rs := [13]) (by kernel_rfl) (by simp) (AllReadyH.cons ((nth_eq _ 13).trans rfl) ?_ AllReadyH.nil)
              intro K' hK
              refine call_in hK (by kernel_rfl) 17 #[.pointer (some ⟨wA.heap.size, 0, none⟩), .int .i64 1] (by go_simp) _ (read_step (hLd.drew.later hb11) (by omega) 1 A1 l1 r1.out HA1.out.len) ?_
              rintro v w12 ⟨a12, cap12, rfl, hr12, hb12⟩
              refine ⟨hS11.on hb12, rebase (hS11.on hb12) ?_⟩
              simp only [Act.put, List.setIfInBounds_toArray, List.set_cons_zero, List.set_cons_succ]
              have S12 : Since w10 w12 := S11.on hb12
              have hS12 := Since.refl w12
              have cl0' : ∀ u, Since w12 u → u.cell? ⟨b, 0, none⟩ = some (.string s0) := fun u hu => cl0 u (S12.on hu)
              have kM' : ∀ u, Since w12 u → (convert 28 9 (.slice ma ml mcap)).run Try.prog u = .ok (.string sM) u := fun u hu => kM u (S12.on hu)
              have k12 : ∀ u, Since w12 u → (convert 28 9 (.slice a12 l1 cap12)).run Try.prog u = .ok (.string s1) u := fun u hu => by have := conv_row (hr12.after hu) cap12; rwa [← HA1.out.str] at this
              refine take_since 14 (by assumption) rfl (by kernel_rfl) (by kernel_rfl) (by kernel_rfl) (fun _ _ _ h => h) (by kernel_rfl) (v := ?v39) ?y39 ?r39
              case y39 => (intro u hu; have := k12 u hu; go_simp; try rfl)
              simp only [Act.put, List.setIfInBounds_toArray, List.set_cons_zero, List.set_cons_succ]
              refine take_since 17 (by assumption) rfl (by kernel_rfl) (by kernel_rfl) (by kernel_rfl) (fun _ _ _ h => h) (by kernel_rfl) (v := ?v40) ?y40 ?r40
              case y40 => (intro u hu; go_simp; try rfl)
              simp only [Act.put, List.setIfInBounds_toArray, List.set_cons_zero, List.set_cons_succ]
              refine take_since 18 (by assumption) rfl (by kernel_rfl) (by kernel_rfl) (by kernel_rfl) (fun _ _ _ h => h) (by kernel_rfl) (v := ?v41) ?y41 ?r41
              case y41 => (intro u hu; go_simp; try rfl)
              simp only [Act.put, List.setIfInBounds_toArray, List.set_cons_zero, List.set_cons_succ]
              refine take_since 19 (by assumption) rfl (by kernel_rfl) (by kernel_rfl) (by kernel_rfl) (fun _ _ _ h => h) (by kernel_rfl) (v := ?v42) ?y42 ?r42
              case y42 => (intro u hu; go_simp; try rfl)
              simp only [Act.put, List.setIfInBounds_toArray, List.set_cons_zero, List.set_cons_succ]
              refine take_since 20 (by assumption) rfl (by kernel_rfl) (by kernel_rfl) (by kernel_rfl) (fun _ _ _ h => h) (by kernel_rfl) (v := ?v43) ?y43 ?r43
              case y43 => (intro u hu; go_simp; try rfl)
              simp only [Act.put, List.setIfInBounds_toArray, List.set_cons_zero, List.set_cons_succ]
              refine take_since 23 (by assumption) rfl (by kernel_rfl) (by kernel_rfl) (by kernel_rfl) (fun _ _ _ h => h) (by kernel_rfl) (v := ?v44) ?y44 ?r44
              case y44 => (intro u hu; go_simp; try rfl)
              simp only [Act.put, List.setIfInBounds_toArray, List.set_cons_zero, List.set_cons_succ]
              refine take_since 24 (by assumption) rfl (by kernel_rfl) (by kernel_rfl) (by kernel_rfl) (fun _ _ _ h => h) (by kernel_rfl) (v := ?v45) ?y45 ?r45
              case y45 => (intro u hu; have := cl0' u hu; go_simp; try rfl)
              simp only [Act.put, List.setIfInBounds_toArray, List.set_cons_zero, List.set_cons_succ]
              refine take_since 25 (by assumption) rfl (by kernel_rfl) (by kernel_rfl) (by kernel_rfl) (fun _ _ _ h => h) (by kernel_rfl) (v := ?v46) ?y46 ?r46
              case y46 => (intro u hu; go_simp; try rfl)
              simp only [Act.put, List.setIfInBounds_toArray, List.set_cons_zero, List.set_cons_succ]
              refine take_since 26 (by assumption) rfl (by kernel_rfl) (by kernel_rfl) (by kernel_rfl) (fun _ _ _ h => h) (by kernel_rfl) (v := ?v47) ?y47 ?r47
              case y47 => (intro u hu; have := kM' u hu; go_simp; try rfl)
              simp only [Act.put, List.setIfInBounds_toArray, List.set_cons_zero, List.set_cons_succ]
              refine take_since 27 (by assumption) rfl (by kernel_rfl) (by kernel_rfl) (by kernel_rfl) (fun _ _ _ h => h) (by kernel_rfl) (v := ?v48) ?y48 ?r48
              case y48 => (intro u hu; have := aM u; go_simp; try rfl)
              simp only [Act.put, List.setIfInBounds_toArray, List.set_cons_zero, List.set_cons_succ]
              refine wpAnyH_ready (rs := [21]) (by kernel_rfl) (by simp) (AllReadyH.cons ((nth_eq _ 21).trans rfl) ?_ AllReadyH.nil)
              intro K' hK
              refine call_in hK (by kernel_rfl) 17 #[.pointer (some ⟨X, 0, none⟩), .int .i64 0] (by go_simp) _ (read_step ((hLX.drew.later hb11).later hb12) (by decide) 0 AM lm ((RP.out _ hM0.out).trans HE.out.symm) HAM.out.len) ?_
              rintro v w13 ⟨a13, cap13, rfl, hr13, hb13⟩
              refine ⟨hS12.on hb13, rebase (hS12.on hb13) ?_⟩
              simp only [Act.put, List.setIfInBounds_toArray, List.set_cons_zero, List.set_cons_succ]
              have hS13 := Since.refl w13
              have k13 : ∀ u, Since w13 u → (convert 28 9 (.slice a13 lm cap13)).run Try.prog u = .ok (.string sAM) u := fun u hu => by have := conv_row (hr13.after hu) cap13; rwa [← HAM.out.str] at this
              refine take_since 22 (by assumption) rfl (by kernel_rfl) (by kernel_rfl) (by kernel_rfl) (fun _ _ _ h => h) (by kernel_rfl) (v := ?v49) ?y49 ?r49
              case y49 => (intro u hu; have := k13 u hu; go_simp; try rfl)
              simp only [Act.put, List.setIfInBounds_toArray, List.set_cons_zero, List.set_cons_succ]
              refine take_since 28 (by assumption) rfl (by kernel_rfl) (by kernel_rfl) (by kernel_rfl) (fun _ _ _ h => h) (by kernel_rfl) (v := ?v50) ?y50 ?r50
              case y50 => (intro u hu; go_simp; try rfl)
              simp only [Act.put, List.setIfInBounds_toArray, List.set_cons_zero, List.set_cons_succ]
              refine take_since 29 (by assumption) rfl (by kernel_rfl) (by kernel_rfl) (by kernel_rfl) (fun _ _ _ h => h) (by kernel_rfl) (v := ?v51) ?y51 ?r51
              case y51 => (intro u hu; go_simp; try rfl)
              simp only [Act.put, List.setIfInBounds_toArray, List.set_cons_zero, List.set_cons_succ]
              refine take_since 30 (by assumption) rfl (by kernel_rfl) (by kernel_rfl) (by kernel_rfl) (fun _ _ _ h => h) (by kernel_rfl) (v := ?v52) ?y52 ?r52
              case y52 => (intro u hu; go_simp; try rfl)
              simp only [Act.put, List.setIfInBounds_toArray, List.set_cons_zero, List.set_cons_succ]
              refine take_since 31 (by assumption) rfl (by kernel_rfl) (by kernel_rfl) (by kernel_rfl) (fun _ _ _ h => h) (by kernel_rfl) (v := ?v53) ?y53 ?r53
              case y53 => (intro u hu; go_simp; try rfl)
              simp only [Act.put, List.setIfInBounds_toArray, List.set_cons_zero, List.set_cons_succ]
              refine wpAnyH_ready (rs := [32]) (by kernel_rfl) (by simp) (AllReadyH.cons ((nth_eq _ 32).trans rfl) ?_ AllReadyH.nil)
              intro K' hK
              refine call_in hK (by kernel_rfl) 21 #[.pointer (some ⟨X, 0, none⟩), .int .i64 1] (by go_simp) _ (size_step' (((hLX.drew.later hb11).later hb12).later hb13) 1 0 (read_none _)) ?_
              rintro v w13 ⟨rfl, rfl⟩
              refine ⟨hS13, ?_⟩
              simp only [Act.put, List.setIfInBounds_toArray, List.set_cons_zero, List.set_cons_succ]
              refine take_since 33 (by assumption) rfl (by kernel_rfl) (by kernel_rfl) (by kernel_rfl) (fun _ _ _ h => h) (by kernel_rfl) (v := ?v54) ?y54 ?r54
              case y54 => (intro u hu; go_simp; try rfl)
              simp only [Act.put, List.setIfInBounds_toArray, List.set_cons_zero, List.set_cons_succ]
              refine take_since 34 (by assumption) rfl (by kernel_rfl) (by kernel_rfl) (by kernel_rfl) (fun _ _ _ h => h) (by kernel_rfl) (v := ?v55) ?y55 ?r55
              case y55 => (intro u hu; go_simp; try rfl)
              simp only [Act.put, List.setIfInBounds_toArray, List.set_cons_zero, List.set_cons_succ]
              refine take_since 35 (by assumption) rfl (by kernel_rfl) (by kernel_rfl) (by kernel_rfl) (fun _ _ _ h => h) (by kernel_rfl) (v := ?v56) ?y56 ?r56
              case y56 => (intro u hu; go_simp; try rfl)
              simp only [Act.put, List.setIfInBounds_toArray, List.set_cons_zero, List.set_cons_succ]
              refine done_since (by kernel_rfl) ?_ _
              go_wp2
              go_ret
              exact ⟨rfl, B11.trans (Below.mono (S12.on hb13) B11.size)⟩
      · go_wp2_with fail
        go_cut [8] (fun p8 wc => ∃ b, p8 = .pointer (some ⟨b, 0, none⟩) ∧ Lone w wc wA.heap.size σ k ∧ wc.cell? ⟨b, 0, none⟩ = some (.string s0) ∧ wc.cell? ⟨b, 1, none⟩ = some (.string s1))
        case first =>
          refine start_since 9 rfl (by kernel_rfl) ?_
          have hS := (Since.refl wr).drew
          refine take_since 0 (by assumption) rfl (by kernel_rfl) (by kernel_rfl) (by kernel_rfl) (fun _ _ _ h => h) (by kernel_rfl) (v := ?v57) ?y57 ?r57
          case y57 => (intro u hu; go_simp; try rfl)
          simp only [Act.put, List.setIfInBounds_toArray, List.set_cons_zero, List.set_cons_succ]
          refine take_since 3 (by assumption) rfl (by kernel_rfl) (by kernel_rfl) (by kernel_rfl) (fun _ _ _ h => h) (by kernel_rfl) (v := ?v58) ?y58 ?r58
          case y58 => (intro u hu; go_simp; try rfl)
          simp only [Act.put, List.setIfInBounds_toArray, List.set_cons_zero, List.set_cons_succ]
          refine wpAnyH_ready (rs := [1, 7]) (by kernel_rfl) (by simp) (AllReadyH.cons ((nth_eq _ 1).trans rfl) ?_ (AllReadyH.cons ((nth_eq _ 7).trans rfl) ?_ AllReadyH.nil))
          · intro K' hK
            refine call_in hK (by kernel_rfl) 17 #[.pointer (some ⟨wA.heap.size, 0, none⟩), .int .i64 0] (by go_simp) _ (read_step hL.drew (by omega) 0 A0 l0 r0.out HA0.out.len) ?_
            rintro v w1 ⟨a1, cap1, rfl, hr1, hb1⟩
            refine ⟨hS.on hb1, rebase (hS.on hb1) ?_⟩
            simp only [Act.put, List.setIfInBounds_toArray, List.set_cons_zero, List.set_cons_succ]
            have hS1 := Since.refl w1
            have k1 : ∀ u, Since w1 u → (convert 28 9 (.slice a1 l0 cap1)).run Try.prog u = .ok (.string s0) u := fun u hu => by have := conv_row (hr1.after hu) cap1; rwa [← HA0.out.str] at this
            refine take_since 2 (by assumption) rfl (by kernel_rfl) (by kernel_rfl) (by kernel_rfl) (fun _ _ _ h => h) (by kernel_rfl) (v := ?v59) ?y59 ?r59
            case y59 => (intro u hu; have := k1 u hu; go_simp; try rfl)
            simp only [Act.put, List.setIfInBounds_toArray, List.set_cons_zero, List.set_cons_succ]
            refine wpAnyH_ready (rs := [4, 7]) (by kernel_rfl) (by simp) (AllReadyH.cons ((nth_eq _ 4).trans rfl) ?_ (AllReadyH.cons ((nth_eq _ 7).trans rfl) ?_ AllReadyH.nil))
            · intro K' hK
              refine call_in hK (by kernel_rfl) 17 #[.pointer (some ⟨wA.heap.size, 0, none⟩), .int .i64 1] (by go_simp) _ (read_step (hL.drew.later hb1) (by omega) 1 A1 l1 r1.out HA1.out.len) ?_
              rintro v w2 ⟨a2, cap2, rfl, hr2, hb2⟩
              refine ⟨hS1.on hb2, rebase (hS1.on hb2) ?_⟩
              simp only [Act.put, List.setIfInBounds_toArray, List.set_cons_zero, List.set_cons_succ]
              have hS2 := Since.refl w2
              have k2 : ∀ u, Since w2 u → (convert 28 9 (.slice a2 l1 cap2)).run Try.prog u = .ok (.string s1) u := fun u hu => by have := conv_row (hr2.after hu) cap2; rwa [← HA1.out.str] at this
              refine take_since 5 (by assumption) rfl (by kernel_rfl) (by kernel_rfl) (by kernel_rfl) (fun _ _ _ h => h) (by kernel_rfl) (v := ?v60) ?y60 ?r60
              case y60 => (intro u hu; have := k2 u hu; go_simp; try rfl)
              simp only [Act.put, List.setIfInBounds_toArray, List.set_cons_zero, List.set_cons_succ]
              refine take_since 6 (by assumption) rfl (by kernel_rfl) (by kernel_rfl) (by kernel_rfl) (fun _ _ _ h => h) (by kernel_rfl) (v := ?v61) ?y61 ?r61
              case y61 => (intro u hu; go_simp; try rfl)
              simp only [Act.put, List.setIfInBounds_toArray, List.set_cons_zero, List.set_cons_succ]
              refine wpAnyH_ready (rs := [7]) (by kernel_rfl) (by simp) (AllReadyH.cons ((nth_eq _ 7).trans rfl) ?_ AllReadyH.nil)
              intro K' hK
              refine value_in hK (by kernel_rfl) (.pointer (some ⟨w2.heap.size, 0, none⟩)) (w2.alloc (.cells #[.string ⟨#[]⟩, .string ⟨#[]⟩] 45)) (by go_simp) (hS2.on ((Below.refl _ _).alloc (Nat.le_refl _) _)) ?_
              simp only [Act.put, List.setIfInBounds_toArray, List.set_cons_zero, List.set_cons_succ]
              refine wpAnyH_ready (rs := [8]) (by kernel_rfl) (by simp) (AllReadyH.cons ((nth_eq _ 8).trans rfl) ?_ AllReadyH.nil)
              intro K' hK
              refine skip_in hK (by kernel_rfl) (w2.alloc (.cells #[.string s0, .string s1] 45)) (by go_simp) (hS2.on ((Below.refl _ _).alloc (Nat.le_refl _) _)) ?_
              simp only [Act.put, List.setIfInBounds_toArray, List.set_cons_zero, List.set_cons_succ]
              refine done_since (by kernel_rfl) ?_ _
              go_wp2_with fail
              go_meet
              exact ⟨w2.heap.size, rfl, ((hL.drew.later hb1).later hb2).alloc _, cell_of_row _ _ 0 _ _ _ (heap_alloc_new w2 _), cell_of_row _ _ 1 _ _ _ (heap_alloc_new w2 _)⟩
            · intro K' hK
              refine value_in hK (by kernel_rfl) (.pointer (some ⟨w1.heap.size, 0, none⟩)) (w1.alloc (.cells #[.string ⟨#[]⟩, .string ⟨#[]⟩] 45)) (by go_simp) (hS1.on ((Below.refl _ _).alloc (Nat.le_refl _) _)) ?_
              simp only [Act.put, List.setIfInBounds_toArray, List.set_cons_zero, List.set_cons_succ]
              have hS3 : Since w1 (w1.alloc (.cells #[.string ⟨#[]⟩, .string ⟨#[]⟩] 45)) := hS1.on ((Below.refl _ _).alloc (Nat.le_refl _) _)
              have hrow := heap_alloc_new w1 (.cells #[.string ⟨#[]⟩, .string ⟨#[]⟩] 45)
              have z0 := cell_of_row _ _ 0 _ _ _ hrow
              have z1 := cell_of_row _ _ 1 _ _ _ hrow
              have y0 := frozen_of_row _ _ 0 _ _ hrow
              have y1 := frozen_of_row _ _ 1 _ _ hrow
              have hlt : w1.heap.size < (w1.alloc (.cells #[.string ⟨#[]⟩, .string ⟨#[]⟩] 45)).heap.size := by simp
              refine wpAnyH_ready (rs := [4]) (by kernel_rfl) (by simp) (AllReadyH.cons ((nth_eq _ 4).trans rfl) ?_ AllReadyH.nil)
              intro K' hK
              refine call_in hK (by kernel_rfl) 17 #[.pointer (some ⟨wA.heap.size, 0, none⟩), .int .i64 1] (by go_simp) _ (read_step ((hL.drew.later hb1).alloc _) (by omega) 1 A1 l1 r1.out HA1.out.len) ?_
              rintro v w2 ⟨a2, cap2, rfl, hr2, hb2⟩
              refine ⟨hS3.on hb2, ?_⟩
              simp only [Act.put, List.setIfInBounds_toArray, List.set_cons_zero, List.set_cons_succ]
              have hS4 : Since w1 w2 := hS3.on hb2
              have k2 : ∀ u, Since w2 u → (convert 28 9 (.slice a2 l1 cap2)).run Try.prog u = .ok (.string s1) u := fun u hu => by have := conv_row (hr2.after hu) cap2; rwa [← HA1.out.str] at this
              have k2' := k2 w2 (Since.refl w2)
              have g0 := (hb2.cell (p := ⟨w1.heap.size, 0, none⟩) hlt).trans z0
              have g1 := (hb2.cell (p := ⟨w1.heap.size, 1, none⟩) hlt).trans z1
              have e0 := (hb2.frozen (p := ⟨w1.heap.size, 0, none⟩) hlt).trans y0
              have e1 := (hb2.frozen (p := ⟨w1.heap.size, 1, none⟩) hlt).trans y1
              refine wpAnyH_ready (rs := [5]) (by kernel_rfl) (by simp) (AllReadyH.cons ((nth_eq _ 5).trans rfl) ?_ AllReadyH.nil)
              intro K' hK
              refine value_in hK (by kernel_rfl) (.string s1) w2 (by go_simp) (hS4) ?_
              simp only [Act.put, List.setIfInBounds_toArray, List.set_cons_zero, List.set_cons_succ]
              refine take_since 6 (by assumption) rfl (by kernel_rfl) (by kernel_rfl) (by kernel_rfl) (fun _ _ _ h => h) (by kernel_rfl) (v := ?v62) ?y62 ?r62
              case y62 => (intro u hu; go_simp; try rfl)
              simp only [Act.put, List.setIfInBounds_toArray, List.set_cons_zero, List.set_cons_succ]
              refine wpAnyH_ready (rs := [8]) (by kernel_rfl) (by simp) (AllReadyH.cons ((nth_eq _ 8).trans rfl) ?_ AllReadyH.nil)
              intro K' hK
              refine skip_in hK (by kernel_rfl) ((w2.setCell ⟨w1.heap.size, 0, none⟩ (.string s0)).setCell ⟨w1.heap.size, 1, none⟩ (.string s1)) (by go_simp) (Below.setCell (Below.setCell hS4 (p := ⟨w1.heap.size, 0, none⟩) (Nat.le_refl _) _) (p := ⟨w1.heap.size, 1, none⟩) (Nat.le_refl _) _) ?_
              simp only [Act.put, List.setIfInBounds_toArray, List.set_cons_zero, List.set_cons_succ]
              refine done_since (by kernel_rfl) ?_ _
              go_wp2_with fail
              go_meet
              exact ⟨w1.heap.size, rfl, (hL.drew.later hb1).later (Below.setCell (Below.setCell hS4 (p := ⟨w1.heap.size, 0, none⟩) (Nat.le_refl _) _) (p := ⟨w1.heap.size, 1, none⟩) (Nat.le_refl _) _), two_cell0 g0, two_cell1 g1⟩
          · intro K' hK
            refine value_in hK (by kernel_rfl) (.pointer (some ⟨wr.drew.heap.size, 0, none⟩)) (wr.drew.alloc (.cells #[.string ⟨#[]⟩, .string ⟨#[]⟩] 45)) (by go_simp) (hS.on ((Below.refl _ _).alloc (Nat.le_refl _) _)) ?_
            simp only [Act.put, List.setIfInBounds_toArray, List.set_cons_zero, List.set_cons_succ]
            have hS3 : Since wr (wr.drew.alloc (.cells #[.string ⟨#[]⟩, .string ⟨#[]⟩] 45)) := hS.on ((Below.refl _ _).alloc (Nat.le_refl _) _)
            have hrow := heap_alloc_new wr.drew (.cells #[.string ⟨#[]⟩, .string ⟨#[]⟩] 45)
            have z0 := cell_of_row _ _ 0 _ _ _ hrow
            have z1 := cell_of_row _ _ 1 _ _ _ hrow
            have y0 := frozen_of_row _ _ 0 _ _ hrow
            have y1 := frozen_of_row _ _ 1 _ _ hrow
            have hlt : wr.heap.size < (wr.drew.alloc (.cells #[.string ⟨#[]⟩, .string ⟨#[]⟩] 45)).heap.size := by simp
            refine wpAnyH_ready (rs := [1]) (by kernel_rfl) (by simp) (AllReadyH.cons ((nth_eq _ 1).trans rfl) ?_ AllReadyH.nil)
            intro K' hK
            refine call_in hK (by kernel_rfl) 17 #[.pointer (some ⟨wA.heap.size, 0, none⟩), .int .i64 0] (by go_simp) _ (read_step (hL.drew.alloc _) (by omega) 0 A0 l0 r0.out HA0.out.len) ?_
            rintro v w1 ⟨a1, cap1, rfl, hr1, hb1⟩
            refine ⟨hS3.on hb1, ?_⟩
            simp only [Act.put, List.setIfInBounds_toArray, List.set_cons_zero, List.set_cons_succ]
            have hS4 : Since wr w1 := hS3.on hb1
            have k1 : ∀ u, Since w1 u → (convert 28 9 (.slice a1 l0 cap1)).run Try.prog u = .ok (.string s0) u := fun u hu => by have := conv_row (hr1.after hu) cap1; rwa [← HA0.out.str] at this
            have k1' := k1 w1 (Since.refl w1)
            have z2 := (hb1.cell (p := ⟨wr.heap.size, 0, none⟩) hlt).trans z0
            have z3 := (hb1.cell (p := ⟨wr.heap.size, 1, none⟩) hlt).trans z1
            have y2 := (hb1.frozen (p := ⟨wr.heap.size, 0, none⟩) hlt).trans y0
            have y3 := (hb1.frozen (p := ⟨wr.heap.size, 1, none⟩) hlt).trans y1
            have hlt1 : wr.heap.size < w1.heap.size := Nat.lt_of_lt_of_le hlt hb1.size
            refine wpAnyH_ready (rs := [2, 4]) (by kernel_rfl) (by simp) (AllReadyH.cons ((nth_eq _ 2).trans rfl) ?_ (AllReadyH.cons ((nth_eq _ 4).trans rfl) ?_ AllReadyH.nil))
            · intro K' hK
              refine value_in hK (by kernel_rfl) (.string s0) w1 (by go_simp) (hS4) ?_
              simp only [Act.put, List.setIfInBounds_toArray, List.set_cons_zero, List.set_cons_succ]
              refine wpAnyH_ready (rs := [4]) (by kernel_rfl) (by simp) (AllReadyH.cons ((nth_eq _ 4).trans rfl) ?_ AllReadyH.nil)
              intro K' hK
              refine call_in hK (by kernel_rfl) 17 #[.pointer (some ⟨wA.heap.size, 0, none⟩), .int .i64 1] (by go_simp) _ (read_step ((hL.drew.alloc _).later hb1) (by omega) 1 A1 l1 r1.out HA1.out.len) ?_
              rintro v w2 ⟨a2, cap2, rfl, hr2, hb2⟩
              refine ⟨hS4.on hb2, ?_⟩
              simp only [Act.put, List.setIfInBounds_toArray, List.set_cons_zero, List.set_cons_succ]
              have hS5 : Since wr w2 := hS4.on hb2
              have k2 : ∀ u, Since w2 u → (convert 28 9 (.slice a2 l1 cap2)).run Try.prog u = .ok (.string s1) u := fun u hu => by have := conv_row (hr2.after hu) cap2; rwa [← HA1.out.str] at this
              have k2' := k2 w2 (Since.refl w2)
              have k1'' := k1 w2 hb2
              have g0 := (hb2.cell (p := ⟨wr.heap.size, 0, none⟩) hlt1).trans z2
              have g1 := (hb2.cell (p := ⟨wr.heap.size, 1, none⟩) hlt1).trans z3
              have e0 := (hb2.frozen (p := ⟨wr.heap.size, 0, none⟩) hlt1).trans y2
              have e1 := (hb2.frozen (p := ⟨wr.heap.size, 1, none⟩) hlt1).trans y3
              refine wpAnyH_ready (rs := [5]) (by kernel_rfl) (by simp) (AllReadyH.cons ((nth_eq _ 5).trans rfl) ?_ AllReadyH.nil)
              intro K' hK
              refine value_in hK (by kernel_rfl) (.string s1) w2 (by go_simp) (hS5) ?_
              simp only [Act.put, List.setIfInBounds_toArray, List.set_cons_zero, List.set_cons_succ]
              refine take_since 6 (by assumption) rfl (by kernel_rfl) (by kernel_rfl) (by kernel_rfl) (fun _ _ _ h => h) (by kernel_rfl) (v := ?v63) ?y63 ?r63
              case y63 => (intro u hu; go_simp; try rfl)
              simp only [Act.put, List.setIfInBounds_toArray, List.set_cons_zero, List.set_cons_succ]
              refine wpAnyH_ready (rs := [8]) (by kernel_rfl) (by simp) (AllReadyH.cons ((nth_eq _ 8).trans rfl) ?_ AllReadyH.nil)
              intro K' hK
              refine skip_in hK (by kernel_rfl) ((w2.setCell ⟨wr.heap.size, 0, none⟩ (.string s0)).setCell ⟨wr.heap.size, 1, none⟩ (.string s1)) (by go_simp) (Below.setCell (Below.setCell hS5 (p := ⟨wr.heap.size, 0, none⟩) (Nat.le_refl _) _) (p := ⟨wr.heap.size, 1, none⟩) (Nat.le_refl _) _) ?_
              simp only [Act.put, List.setIfInBounds_toArray, List.set_cons_zero, List.set_cons_succ]
              refine done_since (by kernel_rfl) ?_ _
              go_wp2_with fail
              go_meet
              exact ⟨wr.heap.size, rfl, hL.later (Below.setCell (Below.setCell hS5 (p := ⟨wr.heap.size, 0, none⟩) (Nat.le_refl _) _) (p := ⟨wr.heap.size, 1, none⟩) (Nat.le_refl _) _), two_cell0 g0, two_cell1 g1⟩
            · intro K' hK
              refine call_in hK (by kernel_rfl) 17 #[.pointer (some ⟨wA.heap.size, 0, none⟩), .int .i64 1] (by go_simp) _ (read_step ((hL.drew.alloc _).later hb1) (by omega) 1 A1 l1 r1.out HA1.out.len) ?_
              rintro v w2 ⟨a2, cap2, rfl, hr2, hb2⟩
              refine ⟨hS4.on hb2, ?_⟩
              simp only [Act.put, List.setIfInBounds_toArray, List.set_cons_zero, List.set_cons_succ]
              have hS5 : Since wr w2 := hS4.on hb2
              have k2 : ∀ u, Since w2 u → (convert 28 9 (.slice a2 l1 cap2)).run Try.prog u = .ok (.string s1) u := fun u hu => by have := conv_row (hr2.after hu) cap2; rwa [← HA1.out.str] at this
              have k2' := k2 w2 (Since.refl w2)
              have k1'' := k1 w2 hb2
              have g0 := (hb2.cell (p := ⟨wr.heap.size, 0, none⟩) hlt1).trans z2
              have g1 := (hb2.cell (p := ⟨wr.heap.size, 1, none⟩) hlt1).trans z3
              have e0 := (hb2.frozen (p := ⟨wr.heap.size, 0, none⟩) hlt1).trans y2
              have e1 := (hb2.frozen (p := ⟨wr.heap.size, 1, none⟩) hlt1).trans y3
              refine wpAnyH_ready (rs := [2, 5]) (by kernel_rfl) (by simp) (AllReadyH.cons ((nth_eq _ 2).trans rfl) ?_ (AllReadyH.cons ((nth_eq _ 5).trans rfl) ?_ AllReadyH.nil))
              · intro K' hK
                refine value_in hK (by kernel_rfl) (.string s0) w2 (by go_simp) (hS5) ?_
                simp only [Act.put, List.setIfInBounds_toArray, List.set_cons_zero, List.set_cons_succ]
                refine wpAnyH_ready (rs := [5]) (by kernel_rfl) (by simp) (AllReadyH.cons ((nth_eq _ 5).trans rfl) ?_ AllReadyH.nil)
                intro K' hK
                refine value_in hK (by kernel_rfl) (.string s1) w2 (by go_simp) (hS5) ?_
                simp only [Act.put, List.setIfInBounds_toArray, List.set_cons_zero, List.set_cons_succ]
                refine take_since 6 (by assumption) rfl (by kernel_rfl) (by kernel_rfl) (by kernel_rfl) (fun _ _ _ h => h) (by kernel_rfl) (v := ?v64) ?y64 ?r64
                case y64 => (intro u hu; go_simp; try rfl)
                simp only [Act.put, List.setIfInBounds_toArray, List.set_cons_zero, List.set_cons_succ]
                refine wpAnyH_ready (rs := [8]) (by kernel_rfl) (by simp) (AllReadyH.cons ((nth_eq _ 8).trans rfl) ?_ AllReadyH.nil)
                intro K' hK
                refine skip_in hK (by kernel_rfl) ((w2.setCell ⟨wr.heap.size, 0, none⟩ (.string s0)).setCell ⟨wr.heap.size, 1, none⟩ (.string s1)) (by go_simp) (Below.setCell (Below.setCell hS5 (p := ⟨wr.heap.size, 0, none⟩) (Nat.le_refl _) _) (p := ⟨wr.heap.size, 1, none⟩) (Nat.le_refl _) _) ?_
                simp only [Act.put, List.setIfInBounds_toArray, List.set_cons_zero, List.set_cons_succ]
                refine done_since (by kernel_rfl) ?_ _
                go_wp2_with fail
                go_meet
                exact ⟨wr.heap.size, rfl, hL.later (Below.setCell (Below.setCell hS5 (p := ⟨wr.heap.size, 0, none⟩) (Nat.le_refl _) _) (p := ⟨wr.heap.size, 1, none⟩) (Nat.le_refl _) _), two_cell0 g0, two_cell1 g1⟩
              · intro K' hK
                refine value_in hK (by kernel_rfl) (.string s1) w2 (by go_simp) (hS5) ?_
                simp only [Act.put, List.setIfInBounds_toArray, List.set_cons_zero, List.set_cons_succ]
                refine wpAnyH_ready (rs := [2]) (by kernel_rfl) (by simp) (AllReadyH.cons ((nth_eq _ 2).trans rfl) ?_ AllReadyH.nil)
                intro K' hK
                refine value_in hK (by kernel_rfl) (.string s0) w2 (by go_simp) (hS5) ?_
                simp only [Act.put, List.setIfInBounds_toArray, List.set_cons_zero, List.set_cons_succ]
                refine take_since 6 (by assumption) rfl (by kernel_rfl) (by kernel_rfl) (by kernel_rfl) (fun _ _ _ h => h) (by kernel_rfl) (v := ?v65) ?y65 ?r65
                case y65 => (intro u hu; go_simp; try rfl)
                simp only [Act.put, List.setIfInBounds_toArray, List.set_cons_zero, List.set_cons_succ]
                refine wpAnyH_ready (rs := [8]) (by kernel_rfl) (by simp) (AllReadyH.cons ((nth_eq _ 8).trans rfl) ?_ AllReadyH.nil)
                intro K' hK
                refine skip_in hK (by kernel_rfl) ((w2.setCell ⟨wr.heap.size, 0, none⟩ (.string s0)).setCell ⟨wr.heap.size, 1, none⟩ (.string s1)) (by go_simp) (Below.setCell (Below.setCell hS5 (p := ⟨wr.heap.size, 0, none⟩) (Nat.le_refl _) _) (p := ⟨wr.heap.size, 1, none⟩) (Nat.le_refl _) _) ?_
                simp only [Act.put, List.setIfInBounds_toArray, List.set_cons_zero, List.set_cons_succ]
                refine done_since (by kernel_rfl) ?_ _
                go_wp2_with fail
                go_meet
                exact ⟨wr.heap.size, rfl, hL.later (Below.setCell (Below.setCell hS5 (p := ⟨wr.heap.size, 0, none⟩) (Nat.le_refl _) _) (p := ⟨wr.heap.size, 1, none⟩) (Nat.le_refl _) _), two_cell0 g0, two_cell1 g1⟩
        case rest =>
          obtain ⟨b, rfl, hLc, cb0, cb1⟩ := hcut
          have hB0 := HB.out 0 (by decide)
          have hB1 := HB.out 1 (by decide)
          have hM0 : Hid (readOf (crashSt σ 16777216 16777216) 0 = A0) := show _ = _ from by
            have := read_all σ 0 (by decide) 16777216 (by show _ ≤ 16777216; omega)
            exact this.trans r0.out
          have hM1 : Hid (readOf (crashSt σ 16777216 16777216) 1 = A1) := show _ = _ from by
            have := read_all σ 1 (by decide) 16777216 (by show _ ≤ 16777216; omega)
            exact this.trans r1.out
          have hl0 : l0 ≤ 60030 := by
            have h1 := HA0.out.len
            have h2 : readOf σ 0 = now σ 0 := read_len σ 0 (by decide)
            rw [← r0.out, h2] at h1
            omega
          have hbl := World.block_lt_of_cell? wc _ cb0
          clear hL HB hB0 hB1 h2 cA ho
          go_wp2_with (go_at_call 16; refine (lone_crash hLc (by omega) 16777216 16777216 (by decide) (by decide)).mono ?_; rintro e w3 ⟨X, rfl, h3⟩)
          have cl0 : ∀ u, Since w3 u → u.cell? ⟨b, 0, none⟩ = some (.string s0) := fun u hu => ((h3.below.trans (Below.mono hu h3.below.size)).cell (p := ⟨b, 0, none⟩) hbl).trans cb0
          have cl1 : ∀ u, Since w3 u → u.cell? ⟨b, 1, none⟩ = some (.string s1) := fun u hu => ((h3.below.trans (Below.mono hu h3.below.size)).cell (p := ⟨b, 1, none⟩) hbl).trans cb1
          have hS := (Since.refl w3).drew
          refine start_since 18 rfl (by kernel_rfl) ?_
          refine take_since 0 (by assumption) rfl (by kernel_rfl) (by kernel_rfl) (by kernel_rfl) (fun _ _ _ h => h) (by kernel_rfl) (v := ?v66) ?y66 ?r66
          case y66 => (intro u hu; go_simp; try rfl)
          simp only [Act.put, List.setIfInBounds_toArray, List.set_cons_zero, List.set_cons_succ]
          refine take_since 1 (by assumption) rfl (by kernel_rfl) (by kernel_rfl) (by kernel_rfl) (fun _ _ _ h => h) (by kernel_rfl) (v := ?v67) ?y67 ?r67
          case y67 => (intro u hu; go_simp; try rfl)
          simp only [Act.put, List.setIfInBounds_toArray, List.set_cons_zero, List.set_cons_succ]
          refine take_since 2 (by assumption) rfl (by kernel_rfl) (by kernel_rfl) (by kernel_rfl) (fun _ _ _ h => h) (by kernel_rfl) (v := ?v68) ?y68 ?r68
          case y68 => (intro u hu; go_simp; try rfl)
          simp only [Act.put, List.setIfInBounds_toArray, List.set_cons_zero, List.set_cons_succ]
          refine take_since 3 (by assumption) rfl (by kernel_rfl) (by kernel_rfl) (by kernel_rfl) (fun _ _ _ h => h) (by kernel_rfl) (v := ?v69) ?y69 ?r69
          case y69 => (intro u hu; go_simp; try rfl)
          simp only [Act.put, List.setIfInBounds_toArray, List.set_cons_zero, List.set_cons_succ]
          refine take_since 6 (by assumption) rfl (by kernel_rfl) (by kernel_rfl) (by kernel_rfl) (fun _ _ _ h => h) (by kernel_rfl) (v := ?v70) ?y70 ?r70
          case y70 => (intro u hu; go_simp; try rfl)
          simp only [Act.put, List.setIfInBounds_toArray, List.set_cons_zero, List.set_cons_succ]
          refine take_since 7 (by assumption) rfl (by kernel_rfl) (by kernel_rfl) (by kernel_rfl) (fun _ _ _ h => h) (by kernel_rfl) (v := ?v71) ?y71 ?r71
          case y71 => (intro u hu; have := cl0 u hu; go_simp; try rfl)
          simp only [Act.put, List.setIfInBounds_toArray, List.set_cons_zero, List.set_cons_succ]
          refine wpAnyH_ready (rs := [4]) (by kernel_rfl) (by simp) (AllReadyH.cons ((nth_eq _ 4).trans rfl) ?_ AllReadyH.nil)
          intro K' hK
          refine call_in hK (by kernel_rfl) 17 #[.pointer (some ⟨X, 0, none⟩), .int .i64 0] (by go_simp) _ (read_step h3.drew (by decide) 0 A0 l0 hM0.out HA0.out.len) ?_
          rintro v w4 ⟨a4, cap4, rfl, hr4, hb4⟩
          refine ⟨hS.on hb4, rebase (hS.on hb4) ?_⟩
          simp only [Act.put, List.setIfInBounds_toArray, List.set_cons_zero, List.set_cons_succ]
          have S4 : Since w3 w4 := hS.on hb4
          have hS4 := Since.refl w4
          have cl1' : ∀ u, Since w4 u → u.cell? ⟨b, 1, none⟩ = some (.string s1) := fun u hu => cl1 u (S4.on hu)
          have k4 : ∀ u, Since w4 u → (convert 28 9 (.slice a4 l0 cap4)).run Try.prog u = .ok (.string s0) u := fun u hu => by have := conv_row (hr4.after hu) cap4; rwa [← HA0.out.str] at this
          refine take_since 5 (by assumption) rfl (by kernel_rfl) (by kernel_rfl) (by kernel_rfl) (fun _ _ _ h => h) (by kernel_rfl) (v := ?v72) ?y72 ?r72
          case y72 => (intro u hu; have := k4 u hu; go_simp; try rfl)
          simp only [Act.put, List.setIfInBounds_toArray, List.set_cons_zero, List.set_cons_succ]
          refine take_since 8 (by assumption) rfl (by kernel_rfl) (by kernel_rfl) (by kernel_rfl) (fun _ _ _ h => h) (by kernel_rfl) (v := ?v73) ?y73 ?r73
          case y73 => (intro u hu; go_simp; try rfl)
          simp only [Act.put, List.setIfInBounds_toArray, List.set_cons_zero, List.set_cons_succ]
          refine take_since 9 (by assumption) rfl (by kernel_rfl) (by kernel_rfl) (by kernel_rfl) (fun _ _ _ h => h) (by kernel_rfl) (v := ?v74) ?y74 ?r74
          case y74 => (intro u hu; go_simp; try rfl)
          simp only [Act.put, List.setIfInBounds_toArray, List.set_cons_zero, List.set_cons_succ]
          refine take_since 10 (by assumption) rfl (by kernel_rfl) (by kernel_rfl) (by kernel_rfl) (fun _ _ _ h => h) (by kernel_rfl) (v := ?v75) ?y75 ?r75
          case y75 => (intro u hu; go_simp; try rfl)
          simp only [Act.put, List.setIfInBounds_toArray, List.set_cons_zero, List.set_cons_succ]
          refine take_since 11 (by assumption) rfl (by kernel_rfl) (by kernel_rfl) (by kernel_rfl) (fun _ _ _ h => h) (by kernel_rfl) (v := ?v76) ?y76 ?r76
          case y76 => (intro u hu; go_simp; try rfl)
          simp only [Act.put, List.setIfInBounds_toArray, List.set_cons_zero, List.set_cons_succ]
          refine take_since 14 (by assumption) rfl (by kernel_rfl) (by kernel_rfl) (by kernel_rfl) (fun _ _ _ h => h) (by kernel_rfl) (v := ?v77) ?y77 ?r77
          case y77 => (intro u hu; go_simp; try rfl)
          simp only [Act.put, List.setIfInBounds_toArray, List.set_cons_zero, List.set_cons_succ]
          refine take_since 15 (by assumption) rfl (by kernel_rfl) (by kernel_rfl) (by kernel_rfl) (fun _ _ _ h => h) (by kernel_rfl) (v := ?v78) ?y78 ?r78
          case y78 => (intro u hu; have := cl1' u hu; go_simp; try rfl)
          simp only [Act.put, List.setIfInBounds_toArray, List.set_cons_zero, List.set_cons_succ]
          refine wpAnyH_ready (rs := [12]) (by kernel_rfl) (by simp) (AllReadyH.cons ((nth_eq _ 12).trans rfl) ?_ AllReadyH.nil)
          intro K' hK
          refine call_in hK (by kernel_rfl) 17 #[.pointer (some ⟨X, 0, none⟩), .int .i64 1] (by go_simp) _ (read_step (h3.drew.later hb4) (by decide) 1 A1 l1 hM1.out HA1.out.len) ?_
          rintro v w5 ⟨a5, cap5, rfl, hr5, hb5⟩
          refine ⟨hS4.on hb5, rebase (hS4.on hb5) ?_⟩
          simp only [Act.put, List.setIfInBounds_toArray, List.set_cons_zero, List.set_cons_succ]
          have hS5 := Since.refl w5
          have k5 : ∀ u, Since w5 u → (convert 28 9 (.slice a5 l1 cap5)).run Try.prog u = .ok (.string s1) u := fun u hu => by have := conv_row (hr5.after hu) cap5; rwa [← HA1.out.str] at this
          refine take_since 13 (by assumption) rfl (by kernel_rfl) (by kernel_rfl) (by kernel_rfl) (fun _ _ _ h => h) (by kernel_rfl) (v := ?v79) ?y79 ?r79
          case y79 => (intro u hu; have := k5 u hu; go_simp; try rfl)
          simp only [Act.put, List.setIfInBounds_toArray, List.set_cons_zero, List.set_cons_succ]
          refine take_since 16 (by assumption) rfl (by kernel_rfl) (by kernel_rfl) (by kernel_rfl) (fun _ _ _ h => h) (by kernel_rfl) (v := ?v80) ?y80 ?r80
          case y80 => (intro u hu; go_simp; try rfl)
          simp only [Act.put, List.setIfInBounds_toArray, List.set_cons_zero, List.set_cons_succ]
          refine take_since 17 (by assumption) rfl (by kernel_rfl) (by kernel_rfl) (by kernel_rfl) (fun _ _ _ h => h) (by kernel_rfl) (v := ?v81) ?y81 ?r81
          case y81 => (intro u hu; go_simp; try rfl)
          simp only [Act.put, List.setIfInBounds_toArray, List.set_cons_zero, List.set_cons_succ]
          refine done_since (by kernel_rfl) ?_ _
          have h5 : Lone wc w5 X (crashSt σ 16777216 16777216) 0 := (h3.drew.later hb4).later hb5
          have B5 := (hLc.later h5.below).below
          have hm5 := hm.after B5
          obtain ⟨i0, hi, hz0, hz1, hz2⟩ := info_parts info5
          have hnX : (now (crashSt σ 16777216 16777216) 0).length = l0 := by
            have h1 := read_len (crashSt σ 16777216 16777216) 0 (by decide)
            rw [← h1]
            exact (congrArg List.length hM0.out).trans HA0.out.len
          have HNX : Hid ((now (crashSt σ 16777216 16777216) 0).length = l0) := hnX
          have RP : Hid (∀ (σ : St), readOf σ 0 = A0 → readOf (setSt (setSt σ 0 ((σ 0).1, (σ 0).2 ++ ms.map Sum.inl)) 1 ((setSt σ 0 ((σ 0).1, (σ 0).2 ++ ms.map Sum.inl) 1).1, (setSt σ 0 ((σ 0).1, (σ 0).2 ++ ms.map Sum.inl) 1).2 ++ [.inr 0])) 0 = A0 ++ ms) := fun σ h => by rw [read_put, h]
          clear hnX cl0 cl1 k4 k5 h3 hr4 hb4 hS4 hr5 hb5 hS5 S4 cl1' hS hM1 q1
          go_wp2_with (first
            | (go_at_call 17; refine (lone_read_of (hLc.later h8.below) (by omega) 0 A0 l0 r0.out HA0.out.len).mono ?_; rintro e w9 ⟨a9, cap9, rfl, ho9, hr9, hn9, hb9⟩)
            | (go_at_call 20; refine (lone_cut_ok h7 (by decide) 1 (by decide) 0 (Nat.zero_le _)).mono ?_; rintro e w8 ⟨rfl, h8⟩)
            | (go_at_call 13; refine (lone_append_ok (h5.later hb6) (by decide) 0 (by decide) _ _ _ _ hr6 hn6 (by have := HNX.out; omega)).mono ?_; rintro e w7 ⟨rfl, h7⟩)
            | (go_at_call 14; refine (copy_any ma ml mcap ms w5 hm5 (by omega) hmz).mono ?_; rintro e w6 ⟨a6, cap6, rfl, hr6, ho6, hb6⟩; have hn6 := (owns_row ho6 hr6.small).2.1))
          go_loopw [11] (fun i wx => ∃ (j : Nat) (ys : List Int), j ≤ l0 ∧ i = .int .i64 j ∧ wx.ownsRow w8.heap.size 5 1 (.slice a9 l0 cap9) l0 (ys.map (Value.int .u8)) ∧ Below w8.heap.size w8 wx) (fun i _ => l0 - (intOf i).toNat)
          case atStart => exact ⟨0, A0, Nat.zero_le _, rfl, ho9, hb9⟩
          case round =>
            obtain ⟨j, ys, hj, rfl, hox, hbx⟩ := hrel
            have hyl : ys.length = l0 := by have := hox.1; simpa using this
            by_cases hjl : j < l0
            · obtain ⟨g, rfl⟩ := own_at hox (by omega)
              have cj := hox.cellAt j (by omega)
              rw [List.getElem?_map, List.getElem?_eq_getElem (by omega)] at cj
              have fj := hox.frozenAt j
              have hst := fun u => (hox.stored j u).1
              have hgb := (hox.lt g rfl).1
              generalize ys[j] = z at cj
              simp only [Option.map_some] at cj
              have t1 : (j : Int) < (l0 : Int) := by omega
              have t0 : (0 : Int) ≤ (j : Int) := by omega
              have HST : Hid (∀ u, (wr.setCell ⟨g, j, none⟩ u).ownsRow w8.heap.size 5 1 (.slice (some ⟨g, 0, none⟩) l0 cap9) l0 ((ys.map (Value.int .u8)).set j u)) := hst
              clear hst
              go_wp2
              go_roundw
              case rel =>
                refine ⟨j + 1, ys.set j _, by omega, by go_num, by rw [List.map_set]; exact HST.out _, hbx.setCell (p := ⟨g, j, none⟩) hgb _⟩
              case measure => simp [intOf]; omega
            · have t1 : ¬ (j : Int) < (l0 : Int) := by omega
              go_wp2_with (at_builtin; refine wpList_append_own _ rfl (.tmp 128) (.tmp 129) 28 rfl w8.heap.size 5 i0 (.int .u8 0) 1 1 Try.underlying28 hi hz0 hz1 hz2 rfl (by decide) (.slice a9 l0 cap9) l0 (ys.map (Value.int .u8)) rfl (hox.alloc _) ⟨wr.heap.size, 0, none⟩ 1 1 [.int .u8 7] rfl rfl (cell_one_new _ _ _) (by simp [Value.oneCell']) (by unfold maxLen; omega) (by omega) (by have := hbx.size; simp; omega) ?_; intro v' w10 ho10 hg10 hnil10; obtain ⟨g', cap', rfl, _, _⟩ := ho10.form (by omega))
              have B10 : Below w8.heap.size w8 w10 := (hbx.alloc hbx.size _).grown hg10 (by have := hbx.size; simp; omega) fun q hq => (hox.lt q hq).1
              have hLd : Lone w w10 wA.heap.size σ k := (hLc.later h8.below).later B10
              have hLX := h8.later B10
              have B11 := hLd.below
              have hbX : Below wc.heap.size wc w10 := hLX.below
              obtain ⟨sM, HSM⟩ : ∃ sM, Hid (Str ms ml sM) := ⟨_, by have := str_of ms; rw [hm.len] at this; exact this⟩
              obtain ⟨AM, lm, sAM, HAM, HE⟩ : ∃ AM lm sAM, Hid (Str AM lm sAM) ∧ Hid (AM = A0 ++ ms) := ⟨_, _, _, str_of _, rfl⟩
              have kM : ∀ u, Since w10 u → (convert 28 9 (.slice ma ml mcap)).run Try.prog u = .ok (.string sM) u := fun u hu => by have := conv_row (hm.after (B11.trans (Below.mono hu B11.size))) mcap; rwa [← HSM.out.str] at this
              have aM : ∀ u, (Op.stringOp .add s0 sM).run Try.prog u = .ok (.string sAM) u := fun u => by
                rw [run_string_add_sum _ _ _ (by rw [HA0.out.size, HSM.out.size]; omega), HAM.out.str, HA0.out.str, HSM.out.str, HE.out, str_add]
              have cl0 : ∀ u, Since w10 u → u.cell? ⟨b, 0, none⟩ = some (.string s0) := fun u hu => ((hbX.trans (Below.mono hu hbX.size)).cell (p := ⟨b, 0, none⟩) hbl).trans cb0
              have cl1 : ∀ u, Since w10 u → u.cell? ⟨b, 1, none⟩ = some (.string s1) := fun u hu => ((hbX.trans (Below.mono hu hbX.size)).cell (p := ⟨b, 1, none⟩) hbl).trans cb1
              have hS := (Since.refl w10).drew
              clear hox hbx ho9 hr9 hb9 hg10 ho10 hr6 ho6 hb6 hm5 B5
              refine start_since 36 rfl (by kernel_rfl) ?_
              refine take_since 0 (by assumption) rfl (by kernel_rfl) (by kernel_rfl) (by kernel_rfl) (fun _ _ _ h => h) (by kernel_rfl) (v := ?v82) ?y82 ?r82
              case y82 => (intro u hu; go_simp; try rfl)
              simp only [Act.put, List.setIfInBounds_toArray, List.set_cons_zero, List.set_cons_succ]
              refine take_since 1 (by assumption) rfl (by kernel_rfl) (by kernel_rfl) (by kernel_rfl) (fun _ _ _ h => h) (by kernel_rfl) (v := ?v83) ?y83 ?r83
              case y83 => (intro u hu; go_simp; try rfl)
              simp only [Act.put, List.setIfInBounds_toArray, List.set_cons_zero, List.set_cons_succ]
              refine take_since 2 (by assumption) rfl (by kernel_rfl) (by kernel_rfl) (by kernel_rfl) (fun _ _ _ h => h) (by kernel_rfl) (v := ?v84) ?y84 ?r84
              case y84 => (intro u hu; go_simp; try rfl)
              simp only [Act.put, List.setIfInBounds_toArray, List.set_cons_zero, List.set_cons_succ]
              refine take_since 3 (by assumption) rfl (by kernel_rfl) (by kernel_rfl) (by kernel_rfl) (fun _ _ _ h => h) (by kernel_rfl) (v := ?v85) ?y85 ?r85
              case y85 => (intro u hu; go_simp; try rfl)
              simp only [Act.put, List.setIfInBounds_toArray, List.set_cons_zero, List.set_cons_succ]
              refine take_since 4 (by assumption) rfl (by kernel_rfl) (by kernel_rfl) (by kernel_rfl) (fun _ _ _ h => h) (by kernel_rfl) (v := ?v86) ?y86 ?r86
              case y86 => (intro u hu; go_simp; try rfl)
              simp only [Act.put, List.setIfInBounds_toArray, List.set_cons_zero, List.set_cons_succ]
              refine take_since 7 (by assumption) rfl (by kernel_rfl) (by kernel_rfl) (by kernel_rfl) (fun _ _ _ h => h) (by kernel_rfl) (v := ?v87) ?y87 ?r87
              case y87 => (intro u hu; go_simp; try rfl)
              simp only [Act.put, List.setIfInBounds_toArray, List.set_cons_zero, List.set_cons_succ]
              refine take_since 8 (by assumption) rfl (by kernel_rfl) (by kernel_rfl) (by kernel_rfl) (fun _ _ _ h => h) (by kernel_rfl) (v := ?v88) ?y88 ?r88
              case y88 => (intro u hu; have := cl0 u hu; go_simp; try rfl)
              simp only [Act.put, List.setIfInBounds_toArray, List.set_cons_zero, List.set_cons_succ]
              refine wpAnyH_ready (rs := [5]) (by kernel_rfl) (by simp) (AllReadyH.cons ((nth_eq _ 5).trans rfl) ?_ AllReadyH.nil)
              intro K' hK
              refine call_in hK (by kernel_rfl) 17 #[.pointer (some ⟨wA.heap.size, 0, none⟩), .int .i64 0] (by go_simp) _ (read_step hLd.drew (by omega) 0 A0 l0 r0.out HA0.out.len) ?_
              rintro v w11 ⟨a11, cap11, rfl, hr11, hb11⟩
              refine ⟨hS.on hb11, rebase (hS.on hb11) ?_⟩
              simp only [Act.put, List.setIfInBounds_toArray, List.set_cons_zero, List.set_cons_succ]
              have S11 : Since w10 w11 := hS.on hb11
              have hS11 := Since.refl w11
              have cl1' : ∀ u, Since w11 u → u.cell? ⟨b, 1, none⟩ = some (.string s1) := fun u hu => cl1 u (S11.on hu)
              have k11 : ∀ u, Since w11 u → (convert 28 9 (.slice a11 l0 cap11)).run Try.prog u = .ok (.string s0) u := fun u hu => by have := conv_row (hr11.after hu) cap11; rwa [← HA0.out.str] at this
              refine take_since 6 (by assumption) rfl (by kernel_rfl) (by kernel_rfl) (by kernel_rfl) (fun _ _ _ h => h) (by kernel_rfl) (v := ?v89) ?y89 ?r89
              case y89 => (intro u hu; have := k11 u hu; go_simp; try rfl)
              simp only [Act.put, List.setIfInBounds_toArray, List.set_cons_zero, List.set_cons_succ]
              refine take_since 9 (by assumption) rfl (by kernel_rfl) (by kernel_rfl) (by kernel_rfl) (fun _ _ _ h => h) (by kernel_rfl) (v := ?v90) ?y90 ?r90
              case y90 => (intro u hu; go_simp; try rfl)
              simp only [Act.put, List.setIfInBounds_toArray, List.set_cons_zero, List.set_cons_succ]
              refine take_since 10 (by assumption) rfl (by kernel_rfl) (by kernel_rfl) (by kernel_rfl) (fun _ _ _ h => h) (by kernel_rfl) (v := ?v91) ?y91 ?r91
              case y91 => (intro u hu; go_simp; try rfl)
              simp only [Act.put, List.setIfInBounds_toArray, List.set_cons_zero, List.set_cons_succ]
              refine take_since 11 (by assumption) rfl (by kernel_rfl) (by kernel_rfl) (by kernel_rfl) (fun _ _ _ h => h) (by kernel_rfl) (v := ?v92) ?y92 ?r92
              case y92 => (intro u hu; go_simp; try rfl)
              simp only [Act.put, List.setIfInBounds_toArray, List.set_cons_zero, List.set_cons_succ]
              refine take_since 12 (by assumption) rfl (by kernel_rfl) (by kernel_rfl) (by kernel_rfl) (fun _ _ _ h => h) (by kernel_rfl) (v := ?v93) ?y93 ?r93
              case y93 => (intro u hu; go_simp; try rfl)
              simp only [Act.put, List.setIfInBounds_toArray, List.set_cons_zero, List.set_cons_succ]
              refine take_since 15 (by assumption) rfl (by kernel_rfl) (by kernel_rfl) (by kernel_rfl) (fun _ _ _ h => h) (by kernel_rfl) (v := ?v94) ?y94 ?r94
              case y94 => (intro u hu; go_simp; try rfl)
              simp only [Act.put, List.setIfInBounds_toArray, List.set_cons_zero, List.set_cons_succ]
              refine take_since 16 (by assumption) rfl (by kernel_rfl) (by kernel_rfl) (by kernel_rfl) (fun _ _ _ h => h) (by kernel_rfl) (v := ?v95) ?y95 ?r95
              case y95 => (intro u hu; have := cl1' u hu; go_simp; try rfl)
              simp only [Act.put, List.setIfInBounds_toArray, List.set_cons_zero, List.set_cons_succ]
              refine wpAnyH_ready (rs := [13]) (by kernel_rfl) (by simp) (AllReadyH.cons ((nth_eq _ 13).trans rfl) ?_ AllReadyH.nil)
              intro K' hK
              refine call_in hK (by kernel_rfl) 17 #[.pointer (some ⟨wA.heap.size, 0, none⟩), .int .i64 1] (by go_simp) _ (read_step (hLd.drew.later hb11) (by omega) 1 A1 l1 r1.out HA1.out.len) ?_
              rintro v w12 ⟨a12, cap12, rfl, hr12, hb12⟩
              refine ⟨hS11.on hb12, rebase (hS11.on hb12) ?_⟩
              simp only [Act.put, List.setIfInBounds_toArray, List.set_cons_zero, List.set_cons_succ]
              have S12 : Since w10 w12 := S11.on hb12
              have hS12 := Since.refl w12
              have cl0' : ∀ u, Since w12 u → u.cell? ⟨b, 0, none⟩ = some (.string s0) := fun u hu => cl0 u (S12.on hu)
              have kM' : ∀ u, Since w12 u → (convert 28 9 (.slice ma ml mcap)).run Try.prog u = .ok (.string sM) u := fun u hu => kM u (S12.on hu)
              have k12 : ∀ u, Since w12 u → (convert 28 9 (.slice a12 l1 cap12)).run Try.prog u = .ok (.string s1) u := fun u hu => by have := conv_row (hr12.after hu) cap12; rwa [← HA1.out.str] at this
              refine take_since 14 (by assumption) rfl (by kernel_rfl) (by kernel_rfl) (by kernel_rfl) (fun _ _ _ h => h) (by kernel_rfl) (v := ?v96) ?y96 ?r96
              case y96 => (intro u hu; have := k12 u hu; go_simp; try rfl)
              simp only [Act.put, List.setIfInBounds_toArray, List.set_cons_zero, List.set_cons_succ]
              refine take_since 17 (by assumption) rfl (by kernel_rfl) (by kernel_rfl) (by kernel_rfl) (fun _ _ _ h => h) (by kernel_rfl) (v := ?v97) ?y97 ?r97
              case y97 => (intro u hu; go_simp; try rfl)
              simp only [Act.put, List.setIfInBounds_toArray, List.set_cons_zero, List.set_cons_succ]
              refine take_since 18 (by assumption) rfl (by kernel_rfl) (by kernel_rfl) (by kernel_rfl) (fun _ _ _ h => h) (by kernel_rfl) (v := ?v98) ?y98 ?r98
              case y98 => (intro u hu; go_simp; try rfl)
              simp only [Act.put, List.setIfInBounds_toArray, List.set_cons_zero, List.set_cons_succ]
              refine take_since 19 (by assumption) rfl (by kernel_rfl) (by kernel_rfl) (by kernel_rfl) (fun _ _ _ h => h) (by kernel_rfl) (v := ?v99) ?y99 ?r99
              case y99 => (intro u hu; go_simp; try rfl)
              simp only [Act.put, List.setIfInBounds_toArray, List.set_cons_zero, List.set_cons_succ]
              refine take_since 20 (by assumption) rfl (by kernel_rfl) (by kernel_rfl) (by kernel_rfl) (fun _ _ _ h => h) (by kernel_rfl) (v := ?v100) ?y100 ?r100
              case y100 => (intro u hu; go_simp; try rfl)
              simp only [Act.put, List.setIfInBounds_toArray, List.set_cons_zero, List.set_cons_succ]
              refine take_since 23 (by assumption) rfl (by kernel_rfl) (by kernel_rfl) (by kernel_rfl) (fun _ _ _ h => h) (by kernel_rfl) (v := ?v101) ?y101 ?r101
              case y101 => (intro u hu; go_simp; try rfl)
              simp only [Act.put, List.setIfInBounds_toArray, List.set_cons_zero, List.set_cons_succ]
              refine take_since 24 (by assumption) rfl (by kernel_rfl) (by kernel_rfl) (by kernel_rfl) (fun _ _ _ h => h) (by kernel_rfl) (v := ?v102) ?y102 ?r102
              case y102 => (intro u hu; have := cl0' u hu; go_simp; try rfl)
              simp only [Act.put, List.setIfInBounds_toArray, List.set_cons_zero, List.set_cons_succ]
              refine take_since 25 (by assumption) rfl (by kernel_rfl) (by kernel_rfl) (by kernel_rfl) (fun _ _ _ h => h) (by kernel_rfl) (v := ?v103) ?y103 ?r103
              case y103 => (intro u hu; go_simp; try rfl)
              simp only [Act.put, List.setIfInBounds_toArray, List.set_cons_zero, List.set_cons_succ]
              refine take_since 26 (by assumption) rfl (by kernel_rfl) (by kernel_rfl) (by kernel_rfl) (fun _ _ _ h => h) (by kernel_rfl) (v := ?v104) ?y104 ?r104
              case y104 => (intro u hu; have := kM' u hu; go_simp; try rfl)
              simp only [Act.put, List.setIfInBounds_toArray, List.set_cons_zero, List.set_cons_succ]
              refine take_since 27 (by assumption) rfl (by kernel_rfl) (by kernel_rfl) (by kernel_rfl) (fun _ _ _ h => h) (by kernel_rfl) (v := ?v105) ?y105 ?r105
              case y105 => (intro u hu; have := aM u; go_simp; try rfl)
              simp only [Act.put, List.setIfInBounds_toArray, List.set_cons_zero, List.set_cons_succ]
              refine wpAnyH_ready (rs := [21]) (by kernel_rfl) (by simp) (AllReadyH.cons ((nth_eq _ 21).trans rfl) ?_ AllReadyH.nil)
              intro K' hK
              refine call_in hK (by kernel_rfl) 17 #[.pointer (some ⟨X, 0, none⟩), .int .i64 0] (by go_simp) _ (read_step ((hLX.drew.later hb11).later hb12) (by decide) 0 AM lm ((RP.out _ hM0.out).trans HE.out.symm) HAM.out.len) ?_
              rintro v w13 ⟨a13, cap13, rfl, hr13, hb13⟩
              refine ⟨hS12.on hb13, rebase (hS12.on hb13) ?_⟩
              simp only [Act.put, List.setIfInBounds_toArray, List.set_cons_zero, List.set_cons_succ]
              have hS13 := Since.refl w13
              have k13 : ∀ u, Since w13 u → (convert 28 9 (.slice a13 lm cap13)).run Try.prog u = .ok (.string sAM) u := fun u hu => by have := conv_row (hr13.after hu) cap13; rwa [← HAM.out.str] at this
              refine take_since 22 (by assumption) rfl (by kernel_rfl) (by kernel_rfl) (by kernel_rfl) (fun _ _ _ h => h) (by kernel_rfl) (v := ?v106) ?y106 ?r106
              case y106 => (intro u hu; have := k13 u hu; go_simp; try rfl)
              simp only [Act.put, List.setIfInBounds_toArray, List.set_cons_zero, List.set_cons_succ]
              refine take_since 28 (by assumption) rfl (by kernel_rfl) (by kernel_rfl) (by kernel_rfl) (fun _ _ _ h => h) (by kernel_rfl) (v := ?v107) ?y107 ?r107
              case y107 => (intro u hu; go_simp; try rfl)
              simp only [Act.put, List.setIfInBounds_toArray, List.set_cons_zero, List.set_cons_succ]
              refine take_since 29 (by assumption) rfl (by kernel_rfl) (by kernel_rfl) (by kernel_rfl) (fun _ _ _ h => h) (by kernel_rfl) (v := ?v108) ?y108 ?r108
              case y108 => (intro u hu; go_simp; try rfl)
              simp only [Act.put, List.setIfInBounds_toArray, List.set_cons_zero, List.set_cons_succ]
              refine take_since 30 (by assumption) rfl (by kernel_rfl) (by kernel_rfl) (by kernel_rfl) (fun _ _ _ h => h) (by kernel_rfl) (v := ?v109) ?y109 ?r109
              case y109 => (intro u hu; go_simp; try rfl)
              simp only [Act.put, List.setIfInBounds_toArray, List.set_cons_zero, List.set_cons_succ]
              refine take_since 31 (by assumption) rfl (by kernel_rfl) (by kernel_rfl) (by kernel_rfl) (fun _ _ _ h => h) (by kernel_rfl) (v := ?v110) ?y110 ?r110
              case y110 => (intro u hu; go_simp; try rfl)
              simp only [Act.put, List.setIfInBounds_toArray, List.set_cons_zero, List.set_cons_succ]
              refine wpAnyH_ready (rs := [32]) (by kernel_rfl) (by simp) (AllReadyH.cons ((nth_eq _ 32).trans rfl) ?_ AllReadyH.nil)
              intro K' hK
              refine call_in hK (by kernel_rfl) 21 #[.pointer (some ⟨X, 0, none⟩), .int .i64 1] (by go_simp) _ (size_step' (((hLX.drew.later hb11).later hb12).later hb13) 1 0 (read_none _)) ?_
              rintro v w13 ⟨rfl, rfl⟩
              refine ⟨hS13, ?_⟩
              simp only [Act.put, List.setIfInBounds_toArray, List.set_cons_zero, List.set_cons_succ]
              refine take_since 33 (by assumption) rfl (by kernel_rfl) (by kernel_rfl) (by kernel_rfl) (fun _ _ _ h => h) (by kernel_rfl) (v := ?v111) ?y111 ?r111
              case y111 => (intro u hu; go_simp; try rfl)
              simp only [Act.put, List.setIfInBounds_toArray, List.set_cons_zero, List.set_cons_succ]
              refine take_since 34 (by assumption) rfl (by kernel_rfl) (by kernel_rfl) (by kernel_rfl) (fun _ _ _ h => h) (by kernel_rfl) (v := ?v112) ?y112 ?r112
              case y112 => (intro u hu; go_simp; try rfl)
              simp only [Act.put, List.setIfInBounds_toArray, List.set_cons_zero, List.set_cons_succ]
              refine take_since 35 (by assumption) rfl (by kernel_rfl) (by kernel_rfl) (by kernel_rfl) (fun _ _ _ h => h) (by kernel_rfl) (v := ?v113) ?y113 ?r113
              case y113 => (intro u hu; go_simp; try rfl)
              simp only [Act.put, List.setIfInBounds_toArray, List.set_cons_zero, List.set_cons_succ]
              refine done_since (by kernel_rfl) ?_ _
              go_wp2
              go_ret
              exact ⟨rfl, B11.trans (Below.mono (S12.on hb13) B11.size)⟩

set_option maxRecDepth 100000 in
set_option maxHeartbeats 1000000 in
theorem apart_all (sa : Option Addr) (sl scap : Nat) (os : Nat → Op1) (ma : Option Addr) (ml mcap : Nat) (ms : List Int) (w : World) (ho : Ops w sa sl os) (hsl : (sl : Int) ≤ 9223372036854775807) (hm : Row w ma ml ms) (hmz : ma = none → ml = 0 ∧ mcap = 0) :
    Calls Try.prog 5 #[.slice sa sl scap, .slice ma ml mcap] w fun e w' => e = .returned (.bool true) ∧ Below w.heap.size w w' := by
  by_cases h : ml ≤ 2000
  · exact apart_any sa sl scap os ma ml mcap ms w ho hsl hm hmz h
  · have i0 : (2000 : Int) < (ml : Int) := by omega
    clear ho hm
    have cA := awake_any w
    go_enter Try.func5, Try.ntmps5
    go_wp2_with (first | (go_at_call 8; refine (awake_any wA).mono ?_; rintro e wB ⟨rfl, bB⟩) | (go_at_call 8; refine cA.mono ?_; rintro e wA ⟨rfl, bA⟩))
    go_ret
    exact ⟨rfl, bA.trans (bB.mono bA.size)⟩

end Go.Proofs.Ytdhcoffbobegoaa.Disk
