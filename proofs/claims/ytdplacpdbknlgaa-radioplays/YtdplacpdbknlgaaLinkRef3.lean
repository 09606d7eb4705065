/-
  The chapter's own link: Waits, Clear, Due; two lists of telegrams held against each other.
-/
import Derived.Test.YtdplacpdbknlgaaLinkRef2
namespace Go.Proofs.Ytdplacpdbknlgaa.Lk
set_option linter.unusedVariables false
set_option linter.unusedSimpArgs false
open Go Go.RowKit Go.Shelf Go.Proofs Go.Proofs.Ytdplacpdbknlgaa.Tick Go.Proofs.Ytdplacpdbknlgaa.Plain
attribute [local go_sem] Oper.semAt_some

set_option maxRecDepth 100000 in
set_option maxHeartbeats 2000000 in
theorem sameTeles_any {w : World} {B1 B2 : Nat} {v1 v2 : Value} {l : List Tl} (O1 : Own w B1 v1 l) (O2 : Own w B2 v2 l) (hl : l.length ≤ 1000000) : Calls Try.prog 18 #[v1, v2] w fun e w' => e = .returned (.bool true) ∧ Below w.heap.size w w' := by
  obtain ⟨n, hn⟩ : ∃ n, l.length = n := ⟨_, rfl⟩
  have HN : Hid (l.length = n) := hn
  obtain ⟨a1, c1, rfl⟩ := own_slice O1 hn
  obtain ⟨a2, c2, rfl⟩ := own_slice O2 hn
  have H1 : Hid (Own w B1 (.slice a1 n c1) l) := O1
  have H2 : Hid (Own w B2 (.slice a2 n c2) l) := O2
  have hln : n ≤ 1000000 := by omega
  clear hn O1 O2 hl
  go_enter Try.func18, Try.ntmps18
  go_wp2_with fail
  go_loopw [5] (fun c wr => ∃ k : Nat, c = .int .i64 k ∧ k ≤ n ∧ Below w.heap.size w wr) (fun c _ => n - (intOf c).toNat)
  case atStart => exact ⟨0, rfl, by omega, Below.refl _ _⟩
  case round =>
    obtain ⟨k, rfl, hk, bw⟩ := hrel
    by_cases hlt : k < n
    · have h3 : (k : Int) < (n : Int) := by omega
      have hk' : k < l.length := by rw [HN.out]; exact hlt
      obtain ⟨ga, ca, e1, l1, ld1⟩ := own_item H1.out HN.out hk'
      obtain ⟨gb, cb, e2, l2, ld2⟩ := own_item H2.out HN.out hk'
      simp only [Value.slice.injEq, true_and] at e1 e2
      obtain ⟨rfl, rfl⟩ := e1
      obtain ⟨rfl, rfl⟩ := e2
      have hb1 := bw.block ga l1
      have hb2 := bw.block gb l2
      obtain ⟨tw, htw⟩ : ∃ tw, l[k]'hk' = tw := ⟨_, rfl⟩
      rw [htw] at ld1 ld2
      have HB : Hid (Below w.heap.size w wr) := bw
      clear bw
      go_wp2_with fail
      refine start_any (S := fun u => u.heap[ga]? = wr.heap[ga]? ∧ u.heap[gb]? = wr.heap[gb]?) 9 rfl (by kernel_rfl) (fun u su => ⟨by rw [su.heap], by rw [su.heap]⟩) ?_
      intro x0 sx
      have HS1 : x0.heap[ga]? = wr.heap[ga]? ∧ x0.heap[gb]? = wr.heap[gb]? := ⟨by rw [sx.heap], by rw [sx.heap]⟩
      simp only [Array.replicate_succ, Array.replicate_zero, List.push_toArray, List.nil_append, List.cons_append]
      refine take_held 0 HS1 rfl (by kernel_rfl) (by kernel_rfl) (by kernel_rfl) (fun _ _ _ h => h) (by kernel_rfl) (v := ?v718) ?y718 ?r718
      case y718 => (intro u hu; go_simp; try rfl)
      simp only [Act.put, List.setIfInBounds_toArray, List.set_cons_zero, List.set_cons_succ]
      refine take_held 1 HS1 rfl (by kernel_rfl) (by kernel_rfl) (by kernel_rfl) (fun _ _ _ h => h) (by kernel_rfl) (v := ?v719) ?y719 ?r719
      case y719 => (intro u hu; go_simp; try rfl)
      simp only [Act.put, List.setIfInBounds_toArray, List.set_cons_zero, List.set_cons_succ]
      refine take_held 2 HS1 rfl (by kernel_rfl) (by kernel_rfl) (by kernel_rfl) (fun _ _ _ h => h) (by kernel_rfl) (v := .pointer (some ⟨ga, k * 19, none⟩)) ?y720 ?r720
      case y720 => (intro u hu; go_simp; try rfl)
      simp only [Act.put, List.setIfInBounds_toArray, List.set_cons_zero, List.set_cons_succ]
      refine take_held 3 HS1 rfl (by kernel_rfl) (by kernel_rfl) (by kernel_rfl) (fun _ _ _ h => h) (by kernel_rfl) (v := .agg (tlA tw)) ?y721 ?r721
      case y721 => (intro u hu; exact run_load_at 42 (.tmp 19) rfl ⟨ga, k * 19, none⟩ rfl _ (ld1 u (hu.1.trans hb1)))
      simp only [Act.put, List.setIfInBounds_toArray, List.set_cons_zero, List.set_cons_succ]
      refine take_held 4 HS1 rfl (by kernel_rfl) (by kernel_rfl) (by kernel_rfl) (fun _ _ _ h => h) (by kernel_rfl) (v := ?v722) ?y722 ?r722
      case y722 => (intro u hu; go_simp; try rfl)
      simp only [Act.put, List.setIfInBounds_toArray, List.set_cons_zero, List.set_cons_succ]
      refine take_held 5 HS1 rfl (by kernel_rfl) (by kernel_rfl) (by kernel_rfl) (fun _ _ _ h => h) (by kernel_rfl) (v := ?v723) ?y723 ?r723
      case y723 => (intro u hu; go_simp; try rfl)
      simp only [Act.put, List.setIfInBounds_toArray, List.set_cons_zero, List.set_cons_succ]
      refine take_held 6 HS1 rfl (by kernel_rfl) (by kernel_rfl) (by kernel_rfl) (fun _ _ _ h => h) (by kernel_rfl) (v := .pointer (some ⟨gb, k * 19, none⟩)) ?y724 ?r724
      case y724 => (intro u hu; go_simp; try rfl)
      simp only [Act.put, List.setIfInBounds_toArray, List.set_cons_zero, List.set_cons_succ]
      refine take_held 7 HS1 rfl (by kernel_rfl) (by kernel_rfl) (by kernel_rfl) (fun _ _ _ h => h) (by kernel_rfl) (v := .agg (tlA tw)) ?y725 ?r725
      case y725 => (intro u hu; exact run_load_at 42 (.tmp 23) rfl ⟨gb, k * 19, none⟩ rfl _ (ld2 u (hu.2.trans hb2)))
      simp only [Act.put, List.setIfInBounds_toArray, List.set_cons_zero, List.set_cons_succ]
      refine take_held 8 HS1 rfl (by kernel_rfl) (by kernel_rfl) (by kernel_rfl) (fun _ _ _ h => h) (by kernel_rfl) (v := .bool false) ?y726 ?r726
      case y726 => (intro u hu; exact run_neq_tele _ (.tmp 20) (.tmp 24) rfl tw rfl rfl)
      simp only [Act.put, List.setIfInBounds_toArray, List.set_cons_zero, List.set_cons_succ]
      refine done_held (by kernel_rfl) ?_ _
      go_wp2
      go_roundw
      case rel => exact ⟨k + 1, by go_num, by omega, HB.out.trans (sx.below _)⟩
      case measure => simp [intOf]; omega
    · obtain rfl : k = n := by omega
      have h3 : ¬ (k : Int) < (k : Int) := by omega
      go_wp2
      go_ret
      exact ⟨rfl, bw⟩
end Go.Proofs.Ytdplacpdbknlgaa.Lk
