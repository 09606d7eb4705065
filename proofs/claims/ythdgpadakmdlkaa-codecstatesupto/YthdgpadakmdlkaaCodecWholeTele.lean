/-
  A thing got whole (Tele): the reader's panic is recovered where it ends.
-/
import Derived.Test.YthdgpadakmdlkaaCodecDoor
namespace Go.Proofs.Ythdgpadakmdlkaa.Codec
set_option linter.unusedVariables false
set_option linter.unusedSimpArgs false
open Go Go.RowKit
theorem wsizeTele : (Try.prog.info? 44).map (·.size) = some 19 := by kernel_rfl
theorem catchTele_panicking (p : Addr) (x : Int) (u : TypeId) (pv : Value) (w : World) (hc : w.cell? p = some (.int .i64 x)) (hz : w.frozen? p = false) :
    CallsD Try.prog 77 #[.pointer (some p)] (.panicking [{ v := .iface u pv, recovered := false }]) w fun e u' w' =>
      e = .returned (.tuple #[]) ∧ u' = .panicking [{ v := .iface u pv, recovered := true }] ∧ w' = w.setCell p (.int .i64 4) := by
  refine callsD_of_wpS Try.func77 rfl fun c₀ cs hu => ?_
  apply wpS_seq
  apply wpS_region
  simp [wpOpsS, go_sem, recoverD, hu, Try.ntmps77, Exit.thenS]
  refine wpS_cond (t := true) (by simp [Act.eval, Array.replicate]) ?_
  simp only [if_true]
  apply wpS_region
  simp [wpOpsS, go_sem, hc, hz, bodyPostS, results, Try.results77]

theorem catchTele_idle (p : Addr) (w : World) :
    CallsD Try.prog 77 #[.pointer (some p)] .returning w fun e u' w' => e = .returned (.tuple #[]) ∧ u' = .returning ∧ w' = w := by
  refine callsD_of_wpS Try.func77 rfl fun c₀ cs hu => ?_
  apply wpS_seq
  apply wpS_region
  simp [wpOpsS, go_sem, recoverD, hu, Try.ntmps77, Exit.thenS]
  refine wpS_cond (t := false) (by simp [Act.eval, Array.replicate]) ?_
  simp only [Bool.false_eq_true, if_false]
  refine wpS_of_wp (wp_skip ?_)
  cases c₀
  simp_all [bodyPostS, results, Try.results77]

set_option maxRecDepth 100000 in
set_option maxHeartbeats 1000000 in
theorem wholeTele_walk (w : World) (a : Option Addr) (n cap : Nat) (zs : List Int) (hr : Row w a n zs) (hc : n ≤ cap) (hc2 : cap ≤ 9223372036854775807) (h0 : a = none → cap = 0)
    (G : Nat → Array Value → World → Prop) (hst : ∀ k cs u u', G k cs u → (∀ g, w.heap.size + 2 < g → g < u.heap.size → u'.heap[g]? = u.heap[g]?) → G k cs u') (B : Prop)
    (hg : ∀ u R, R = w.heap.size + 1 + 1 → Rd u R a cap zs 0 → Calls Try.prog 40 #[.pointer (some ⟨R, 0, none⟩)] u fun e w' =>
      (∃ cs k', cs.size = 19 ∧ (cs.all fun x => x.oneCell') = true ∧ G k' cs w' ∧ e = .returned (.agg cs) ∧ Rd w' R a cap zs k' ∧ u.grownBy w' (some R)) ∨
      (B ∧ e = .panicked [{ v := .iface 32 (.int .i64 4), recovered := false }] ∧ u.grownBy w' (some R))) :
    Calls Try.prog 39 #[.slice a n cap, .func (.func 40) #[] #[]] w fun e w' => Below w.heap.size w w' ∧
      ((∃ cs, cs.size = 19 ∧ (cs.all fun x => x.oneCell') = true ∧ G n cs w' ∧ e = .returned (.tuple #[.agg cs, .int .i64 0])) ∨
       (e = .returned (.tuple #[.agg #[.int .i64 0, .int .i64 0, .int .i64 0, .int .i64 0, .int .i64 0, .int .i64 0, .int .i64 0, .int .i64 0, .int .i64 0, .bool false, .int .i64 0, .int .i64 0, .bool false, .int .i64 0, .int .i64 0, .int .i64 0, .int .i64 0, .bool false, .int .i64 0], .int .i64 4]) ∧ (B ∨ ∃ k cs u, k < n ∧ G k cs u))) := by
  have hmf : ∀ (fn : Fn) (first cap : Array Value) (w : World), (Instr.makeFunc fn first cap).run Try.prog w = .ok (.func fn first cap) w := fun _ _ _ _ => rfl
  have hl := hr.len
  have gU := giveUp_any
  unfold gaveUp at gU
  have hrd := fun (u : World) (hu : Row u a n zs) => rd_new u a n cap zs 120 hu hc hc2 h0
  have hb2 : Below w.heap.size w ((w.alloc (.cells #[.int .i64 0, .int .i64 0, .int .i64 0, .int .i64 0, .int .i64 0, .int .i64 0, .int .i64 0, .int .i64 0, .int .i64 0, .bool false, .int .i64 0, .int .i64 0, .bool false, .int .i64 0, .int .i64 0, .int .i64 0, .int .i64 0, .bool false, .int .i64 0] 44)).alloc (.cells #[.int .i64 0] 32)) := ((Below.refl _ _).alloc (Nat.le_refl _) _).alloc (by simp) _
  have rd0 := hrd _ (hr.after hb2) (w.heap.size + 1 + 1) (by simp)
  have hb3 := hb2.alloc (by simp; omega) (.cells #[.slice a n cap, .int .i64 0] 120)
  have fT : (((w.alloc (.cells #[.int .i64 0, .int .i64 0, .int .i64 0, .int .i64 0, .int .i64 0, .int .i64 0, .int .i64 0, .int .i64 0, .int .i64 0, .bool false, .int .i64 0, .int .i64 0, .bool false, .int .i64 0, .int .i64 0, .int .i64 0, .int .i64 0, .bool false, .int .i64 0] 44)).alloc (.cells #[.int .i64 0] 32)).alloc (.cells #[.slice a n cap, .int .i64 0] 120)).heap[w.heap.size]? = some (.cells #[.int .i64 0, .int .i64 0, .int .i64 0, .int .i64 0, .int .i64 0, .int .i64 0, .int .i64 0, .int .i64 0, .int .i64 0, .bool false, .int .i64 0, .int .i64 0, .bool false, .int .i64 0, .int .i64 0, .int .i64 0, .int .i64 0, .bool false, .int .i64 0] 44 (0, 0)) := by
    rw [alloc_old _ _ _ (by simp; omega), alloc_old _ _ _ (by simp), heap_alloc_new]
  have fE : (((w.alloc (.cells #[.int .i64 0, .int .i64 0, .int .i64 0, .int .i64 0, .int .i64 0, .int .i64 0, .int .i64 0, .int .i64 0, .int .i64 0, .bool false, .int .i64 0, .int .i64 0, .bool false, .int .i64 0, .int .i64 0, .int .i64 0, .int .i64 0, .bool false, .int .i64 0] 44)).alloc (.cells #[.int .i64 0] 32)).alloc (.cells #[.slice a n cap, .int .i64 0] 120)).heap[w.heap.size + 1]? = some (.cells #[.int .i64 0] 32 (0, 0)) := by
    rw [alloc_old _ _ _ (by simp)]
    have := heap_alloc_new (w.alloc (.cells #[.int .i64 0, .int .i64 0, .int .i64 0, .int .i64 0, .int .i64 0, .int .i64 0, .int .i64 0, .int .i64 0, .int .i64 0, .bool false, .int .i64 0, .int .i64 0, .bool false, .int .i64 0, .int .i64 0, .int .i64 0, .int .i64 0, .bool false, .int .i64 0] 44)) (.cells #[.int .i64 0] 32)
    rw [show (w.alloc (.cells #[.int .i64 0, .int .i64 0, .int .i64 0, .int .i64 0, .int .i64 0, .int .i64 0, .int .i64 0, .int .i64 0, .int .i64 0, .bool false, .int .i64 0, .int .i64 0, .bool false, .int .i64 0, .int .i64 0, .int .i64 0, .int .i64 0, .bool false, .int .i64 0] 44)).heap.size = w.heap.size + 1 by simp] at this
    exact this
  have fS : (((w.alloc (.cells #[.int .i64 0, .int .i64 0, .int .i64 0, .int .i64 0, .int .i64 0, .int .i64 0, .int .i64 0, .int .i64 0, .int .i64 0, .bool false, .int .i64 0, .int .i64 0, .bool false, .int .i64 0, .int .i64 0, .int .i64 0, .int .i64 0, .bool false, .int .i64 0] 44)).alloc (.cells #[.int .i64 0] 32)).alloc (.cells #[.slice a n cap, .int .i64 0] 120)).heap.size = w.heap.size + 3 := by simp
  go_enter_defers Try.func39, Try.ntmps39
  go_wp2_with (first
    | (go_at_call 40; refine (hg _ _ rfl rd0).mono ?_; rintro e w1 (⟨cs, k', hs, ho, hG, rfl, r1, g1⟩ | ⟨hB, rfl, g1⟩); all_goals (have eT := heap_kept g1 (by rw [fS]; omega) (by omega) fT; have eE := heap_kept g1 (by rw [fS]; omega) (by omega) fE; have bW := hb3.grown g1 (by rw [fS]; omega) (fun g hg => by cases hg; omega); have z1 := g1.size; rw [fS] at z1; clear fT fE fS rd0 hb2 hb3))
    | (refine wpList_store_row rfl 44 (.tmp 7) (.tmp 14) rfl w1.heap.size cs rfl rfl 44 #[.int .i64 0, .int .i64 0, .int .i64 0, .int .i64 0, .int .i64 0, .int .i64 0, .int .i64 0, .int .i64 0, .int .i64 0, .bool false, .int .i64 0, .int .i64 0, .bool false, .int .i64 0, .int .i64 0, .int .i64 0, .int .i64 0, .bool false, .int .i64 0] (heap_alloc_new w1 _) (by rw [hs]; exact wsizeTele) (by rw [hs]; rfl) ho ?_; have rd1 := (r1.alloc (.cells #[.int .i64 0, .int .i64 0, .int .i64 0, .int .i64 0, .int .i64 0, .int .i64 0, .int .i64 0, .int .i64 0, .int .i64 0, .bool false, .int .i64 0, .int .i64 0, .bool false, .int .i64 0, .int .i64 0, .int .i64 0, .int .i64 0, .bool false, .int .i64 0] 44)).setRow w1.heap.size cs (by omega) (fun x hx hn => Nat.ne_of_lt (r1.row.lt x hx hn)))
    | (go_at_call 66; refine (left_any _ _ a cap zs k' rd1).mono ?_; rintro e w2 ⟨rfl, m, rfl⟩; generalize hD : zs.length - k' = D; rcases Nat.eq_zero_or_pos D with rfl | hpos)
    | (go_at_call 67; refine (gU _).mono ?_; rintro e w3 ⟨rfl, rfl⟩)
    | (refine wpList_load_row rfl 44 (.tmp 7) rfl w1.heap.size rfl 44 cs (0, 0) _ (setRow_heap (w1.alloc (.cells #[.int .i64 0, .int .i64 0, .int .i64 0, .int .i64 0, .int .i64 0, .int .i64 0, .int .i64 0, .int .i64 0, .int .i64 0, .bool false, .int .i64 0, .int .i64 0, .bool false, .int .i64 0, .int .i64 0, .int .i64 0, .int .i64 0, .bool false, .int .i64 0] 44)) _ _ cs _ _ (heap_alloc_new w1 _)) Try.underlying44 rfl (by rw [hs]; exact wsizeTele) ?_)
    | (refine wpList_store_row rfl 44 (.tmp 4) (.tmp 19) rfl w.heap.size cs rfl rfl 44 #[.int .i64 0, .int .i64 0, .int .i64 0, .int .i64 0, .int .i64 0, .int .i64 0, .int .i64 0, .int .i64 0, .int .i64 0, .bool false, .int .i64 0, .int .i64 0, .bool false, .int .i64 0, .int .i64 0, .int .i64 0, .int .i64 0, .bool false, .int .i64 0] (by rw [World.heap_drewN, setRow_other _ _ _ _ (by omega), alloc_old _ _ _ (by omega)]; exact eT) (by rw [hs]; exact wsizeTele) (by rw [hs]; rfl) ho ?_; have c5 : (((((w1.alloc (.cells #[.int .i64 0, .int .i64 0, .int .i64 0, .int .i64 0, .int .i64 0, .int .i64 0, .int .i64 0, .int .i64 0, .int .i64 0, .bool false, .int .i64 0, .int .i64 0, .bool false, .int .i64 0, .int .i64 0, .int .i64 0, .int .i64 0, .bool false, .int .i64 0] 44)).setRow w1.heap.size cs).drewN m).setRow w.heap.size cs).heap[w.heap.size + 1]? = some (.cells #[.int .i64 0] 32 (0, 0))) := (by rw [setRow_other _ _ _ _ (by omega), World.heap_drewN, setRow_other _ _ _ _ (by omega), alloc_old _ _ _ (by omega)]; exact eE); have d5 := cell_of c5 0; have f5 := frozen_of c5 0; simp only [List.getElem?_toArray, List.getElem?_cons_zero] at d5))
  · obtain rfl : k' = n := by have := r1.le; omega
    refine leaves_cons (f := 77) (args := #[.pointer (some ⟨w.heap.size + 1, 0, none⟩)]) (by simp) (by simp [go_sem]) ?_
    refine (catchTele_idle ⟨w.heap.size + 1, 0, none⟩ _).mono ?_
    rintro e u' w'' ⟨rfl, rfl, rfl⟩
    generalize hU : ((w1.alloc (.cells #[.int .i64 0, .int .i64 0, .int .i64 0, .int .i64 0, .int .i64 0, .int .i64 0, .int .i64 0, .int .i64 0, .int .i64 0, .bool false, .int .i64 0, .int .i64 0, .bool false, .int .i64 0, .int .i64 0, .int .i64 0, .int .i64 0, .bool false, .int .i64 0] 44)).setRow w1.heap.size cs).drewN m = U at *
    have eU : ∀ g, g < w1.heap.size → U.heap[g]? = w1.heap[g]? := fun g hg => by rw [← hU, World.heap_drewN, setRow_other _ _ _ _ (by omega), alloc_old _ _ _ hg]
    have bU : Below w.heap.size w U := by rw [← hU]; exact (below_row (bW.alloc (by omega) _) (by omega) cs).trans ⟨rfl, rfl, rfl, Nat.le_refl _, fun _ _ => rfl⟩
    clear hU
    have hT : ((U.setRow w.heap.size cs).setCell ⟨w.heap.size + 1, 0, none⟩ (.int .i64 0)).heap[w.heap.size]? = some (.cells cs 44 (0, 0)) := by
      rw [heap_setCell_other _ _ _ _ (by simp)]
      exact setRow_heap _ _ _ _ _ _ ((eU _ (by omega)).trans eT)
    refine ⟨_, results_two Try.results39 _ _ w.heap.size (w.heap.size + 1) cs 0 rfl rfl (run_loadVar_row _ _ _ _ cs (0, 0) _ hT Try.underlying44 rfl (by rw [hs]; exact wsizeTele)) (World.cell?_setCell_same _ _ _ d5), ?_, Or.inl ⟨cs, hs, ho, hst _ _ _ _ hG fun g h1 h2 => ?_, rfl⟩⟩
    · exact (below_row bU (Nat.le_refl _) cs).grown (grown_setCell _ _ _) (by rw [setRow_size]; exact bU.size) (fun g hg => by cases hg; simp)
    · rw [heap_setCell_other _ _ _ _ (by simp; omega), setRow_other _ _ _ _ (by omega), eU _ h2]
  · refine leaves_cons (f := 77) (args := #[.pointer (some ⟨w.heap.size + 1, 0, none⟩)]) (by simp) (by simp [go_sem]) ?_
    generalize hU : ((w1.alloc (.cells #[.int .i64 0, .int .i64 0, .int .i64 0, .int .i64 0, .int .i64 0, .int .i64 0, .int .i64 0, .int .i64 0, .int .i64 0, .bool false, .int .i64 0, .int .i64 0, .bool false, .int .i64 0, .int .i64 0, .int .i64 0, .int .i64 0, .bool false, .int .i64 0] 44)).setRow w1.heap.size cs).drewN m = U at *
    have eU : ∀ g, g < w1.heap.size → U.heap[g]? = w1.heap[g]? := fun g hg => by rw [← hU, World.heap_drewN, setRow_other _ _ _ _ (by omega), alloc_old _ _ _ hg]
    have bU : Below w.heap.size w U := by rw [← hU]; exact (below_row (bW.alloc (by omega) _) (by omega) cs).trans ⟨rfl, rfl, rfl, Nat.le_refl _, fun _ _ => rfl⟩
    clear hU
    have eE' := (eU _ (by omega)).trans eE
    refine (catchTele_panicking ⟨w.heap.size + 1, 0, none⟩ 0 32 _ _ (by rw [cell_of eE']; rfl) (frozen_of eE' 0)).mono ?_
    rintro e u' w'' ⟨rfl, rfl, rfl⟩
    have hT : (U.setCell ⟨w.heap.size + 1, 0, none⟩ (.int .i64 4)).heap[w.heap.size]? = some (.cells #[.int .i64 0, .int .i64 0, .int .i64 0, .int .i64 0, .int .i64 0, .int .i64 0, .int .i64 0, .int .i64 0, .int .i64 0, .bool false, .int .i64 0, .int .i64 0, .bool false, .int .i64 0, .int .i64 0, .int .i64 0, .int .i64 0, .bool false, .int .i64 0] 44 (0, 0)) := by
      rw [heap_setCell_other _ _ _ _ (by simp)]
      exact (eU _ (by omega)).trans eT
    refine ⟨_, results_two Try.results39 _ _ w.heap.size (w.heap.size + 1) #[.int .i64 0, .int .i64 0, .int .i64 0, .int .i64 0, .int .i64 0, .int .i64 0, .int .i64 0, .int .i64 0, .int .i64 0, .bool false, .int .i64 0, .int .i64 0, .bool false, .int .i64 0, .int .i64 0, .int .i64 0, .int .i64 0, .bool false, .int .i64 0] 4 rfl rfl (run_loadVar_row _ _ _ _ _ (0, 0) _ hT Try.underlying44 rfl wsizeTele) (World.cell?_setCell_same _ _ _ (cell_of eE' 0)), ?_, Or.inr ⟨rfl, Or.inr ⟨k', cs, w1, by omega, hG⟩⟩⟩
    exact bU.grown (grown_setCell _ _ _) bU.size (fun g hg => by cases hg; simp)
  · refine leaves_cons (f := 77) (args := #[.pointer (some ⟨w.heap.size + 1, 0, none⟩)]) (by simp) (by simp [go_sem]) ?_
    refine (catchTele_panicking ⟨w.heap.size + 1, 0, none⟩ 0 32 _ _ (by rw [cell_of eE]; rfl) (frozen_of eE 0)).mono ?_
    rintro e u' w'' ⟨rfl, rfl, rfl⟩
    have hT : (w1.setCell ⟨w.heap.size + 1, 0, none⟩ (.int .i64 4)).heap[w.heap.size]? = some (.cells #[.int .i64 0, .int .i64 0, .int .i64 0, .int .i64 0, .int .i64 0, .int .i64 0, .int .i64 0, .int .i64 0, .int .i64 0, .bool false, .int .i64 0, .int .i64 0, .bool false, .int .i64 0, .int .i64 0, .int .i64 0, .int .i64 0, .bool false, .int .i64 0] 44 (0, 0)) := by
      rw [heap_setCell_other _ _ _ _ (by simp)]
      exact eT
    refine ⟨_, results_two Try.results39 _ _ w.heap.size (w.heap.size + 1) #[.int .i64 0, .int .i64 0, .int .i64 0, .int .i64 0, .int .i64 0, .int .i64 0, .int .i64 0, .int .i64 0, .int .i64 0, .bool false, .int .i64 0, .int .i64 0, .bool false, .int .i64 0, .int .i64 0, .int .i64 0, .int .i64 0, .bool false, .int .i64 0] 4 rfl rfl (run_loadVar_row _ _ _ _ _ (0, 0) _ hT Try.underlying44 rfl wsizeTele) (World.cell?_setCell_same _ _ _ (cell_of eE 0)), ?_, Or.inr ⟨rfl, Or.inl hB⟩⟩
    exact bW.grown (grown_setCell _ _ _) bW.size (fun g hg => by cases hg; simp)
/- The function that GetTele hands over: it reads as the reader's own method does. -/
set_option maxRecDepth 100000 in
set_option maxHeartbeats 1000000 in
theorem closeTele_any {α : Type} (M : Nat) (c : Cod α) (Is : (Nat → Prop) → α → Array Value → World → Prop) (hI : Held Is 19) (hm : Reader M c Is 41) : Reader M c Is 40 := by
  intro w R a cap zs k hM h
  have hR := h.lt
  have hx : ∀ x, a = some x → zs.length ≠ 0 → x.block ≠ w.heap.size := fun x hx hn => Nat.ne_of_lt (h.row.lt x hx hn)
  have c1 := hm (w.alloc (.cells #[.int .i64 0, .int .i64 0, .int .i64 0, .int .i64 0, .int .i64 0, .int .i64 0, .int .i64 0, .int .i64 0, .int .i64 0, .bool false, .int .i64 0, .int .i64 0, .bool false, .int .i64 0, .int .i64 0, .int .i64 0, .int .i64 0, .bool false, .int .i64 0] 44)) R a cap zs k hM (h.alloc _)
  go_enter Try.func40, Try.ntmps40
  go_wp2_with (first
    | (go_at_call 41; refine c1.mono ?_; rintro e w1 (⟨x, cs, k1, F, q1, l1, o1, rfl, i1, f1, r1, g1⟩ | ⟨q1, rfl, g1⟩))
    | (refine wpList_store_row rfl 44 (.tmp 2) (.tmp 4) rfl w.heap.size cs rfl rfl 44 #[.int .i64 0, .int .i64 0, .int .i64 0, .int .i64 0, .int .i64 0, .int .i64 0, .int .i64 0, .int .i64 0, .int .i64 0, .bool false, .int .i64 0, .int .i64 0, .bool false, .int .i64 0, .int .i64 0, .int .i64 0, .int .i64 0, .bool false, .int .i64 0] (heap_kept g1 (by simp) (by omega) (heap_alloc_new w _)) (by rw [hI.size i1]; exact wsizeTele) (by rw [hI.size i1]; rfl) (hI.one i1) ?_))
  · refine bodyPost_ret (results_cell_row rfl _ _ w.heap.size 44 cs (0, 0) _ rfl (setRow_heap _ _ _ _ _ _ (heap_kept g1 (by simp) (by omega) (heap_alloc_new w _))) Try.underlying44 rfl (by rw [hI.size i1]; exact wsizeTele)) rfl ?_
    refine Or.inl ⟨x, cs, k1, F, q1, l1, o1, rfl, hI.stable i1 fun g hg => ?_, f1.keep (by simp) (by rw [setRow_size]; exact Nat.le_refl _), r1.setRow _ _ (by omega) hx, grown_setRow ((World.grownBy_alloc _ _ _).trans g1) (Nat.le_refl _) _⟩
    have h1 := (f1 g hg).1
    rw [setRow_other _ _ _ _ (by simp at h1; omega)]
  · exact ⟨rfl, Or.inr ⟨q1, rfl, (World.grownBy_alloc _ _ _).trans g1⟩⟩
/- What GetTele answers. -/
set_option maxRecDepth 100000 in
set_option maxHeartbeats 1000000 in
theorem GetTele_any {α : Type} (M : Nat) (c : Cod α) (Is : (Nat → Prop) → α → Array Value → World → Prop) (hI : Held Is 19) (hm : Reader M c Is 41) (w : World) (a : Option Addr) (n cap : Nat) (zs : List Int) (hM : zs.length ≤ M) (hr : Row w a n zs) (hc1 : n ≤ cap) (hc2 : cap ≤ 9223372036854775807) (h0 : a = none → cap = 0) :
    Calls Try.prog 15 #[.slice a n cap] w fun e w' => Below w.heap.size w w' ∧
      ((∃ x cs F, c.whole zs = some x ∧ c.ok x ∧ Is F x cs w' ∧ New F w.heap.size w' ∧ e = .returned (.tuple #[.agg cs, .int .i64 0])) ∨
       (c.whole zs = none ∧ e = .returned (.tuple #[.agg #[.int .i64 0, .int .i64 0, .int .i64 0, .int .i64 0, .int .i64 0, .int .i64 0, .int .i64 0, .int .i64 0, .int .i64 0, .bool false, .int .i64 0, .int .i64 0, .bool false, .int .i64 0, .int .i64 0, .int .i64 0, .int .i64 0, .bool false, .int .i64 0], .int .i64 4]))) := by
  have hl := hr.len
  have hb0 : Below w.heap.size w (w.alloc (.cells #[.int .i64 0, .int .i64 0, .int .i64 0, .int .i64 0, .int .i64 0, .int .i64 0, .int .i64 0, .int .i64 0, .int .i64 0, .bool false, .int .i64 0, .int .i64 0, .bool false, .int .i64 0, .int .i64 0, .int .i64 0, .int .i64 0, .bool false, .int .i64 0] 44)) := (Below.refl _ _).alloc (Nat.le_refl _) _
  have hS : (w.alloc (.cells #[.int .i64 0, .int .i64 0, .int .i64 0, .int .i64 0, .int .i64 0, .int .i64 0, .int .i64 0, .int .i64 0, .int .i64 0, .bool false, .int .i64 0, .int .i64 0, .bool false, .int .i64 0, .int .i64 0, .int .i64 0, .int .i64 0, .bool false, .int .i64 0] 44)).heap.size = w.heap.size + 1 := by simp
  have c1 := wholeTele_walk (w.alloc (.cells #[.int .i64 0, .int .i64 0, .int .i64 0, .int .i64 0, .int .i64 0, .int .i64 0, .int .i64 0, .int .i64 0, .int .i64 0, .bool false, .int .i64 0, .int .i64 0, .bool false, .int .i64 0, .int .i64 0, .int .i64 0, .int .i64 0, .bool false, .int .i64 0] 44)) a n cap zs (hr.after hb0) hc1 hc2 h0 (fun k cs u => ∃ x F, c.get zs = some (x, zs.drop k) ∧ c.ok x ∧ Is F x cs u ∧ New F (w.heap.size + 4) u ∧ k ≤ zs.length)
    (fun k cs u u' ⟨x, F, q, o, i, f, l⟩ hg => ⟨x, F, q, o, hI.stable i fun g hf => hg g (by rw [hS]; have := (f g hf).1; omega) (f g hf).2, fun g hf => ⟨(f g hf).1, by
      have e := hg g (by rw [hS]; have := (f g hf).1; omega) (f g hf).2
      rw [Array.getElem?_eq_getElem (f g hf).2] at e
      exact (Array.getElem?_eq_some_iff.1 e).1⟩, l⟩) (c.get zs = none)
    (fun u R hR hrd => (closeTele_any M c Is hI hm u R a cap zs 0 hM hrd).mono (by
      rintro e w' (⟨x, cs, k1, F, q1, l1, o1, rfl, i1, f1, r1, g1⟩ | ⟨q1, rfl, g1⟩)
      · exact Or.inl ⟨cs, k1, hI.size i1, hI.one i1, ⟨x, F, q1, o1, i1, f1.keep (by have := hrd.lt; rw [hR, hS] at this; omega) (Nat.le_refl _), r1.le⟩, rfl, r1, g1⟩
      · exact Or.inr ⟨q1, rfl, g1⟩))
  go_enter Try.func15, Try.ntmps15
  go_wp2_with (first
    | (go_at_call 39; refine c1.mono ?_; rintro e w1 ⟨b1, ⟨cs, s1, a1, ⟨x, F, q1, o1, i1, f1, l1⟩, rfl⟩ | ⟨rfl, q1⟩⟩)
    | (refine wpList_store_row rfl 44 (.tmp 2) (.tmp 6) rfl w.heap.size cs rfl rfl 44 #[.int .i64 0, .int .i64 0, .int .i64 0, .int .i64 0, .int .i64 0, .int .i64 0, .int .i64 0, .int .i64 0, .int .i64 0, .bool false, .int .i64 0, .int .i64 0, .bool false, .int .i64 0, .int .i64 0, .int .i64 0, .int .i64 0, .bool false, .int .i64 0] ((b1.block _ (by rw [hS]; omega)).trans (heap_alloc_new w _)) (by rw [s1]; exact wsizeTele) (by rw [s1]; rfl) a1 ?_)
    | (refine wpList_store_row rfl 44 (.tmp 2) (.tmp 6) rfl w.heap.size #[.int .i64 0, .int .i64 0, .int .i64 0, .int .i64 0, .int .i64 0, .int .i64 0, .int .i64 0, .int .i64 0, .int .i64 0, .bool false, .int .i64 0, .int .i64 0, .bool false, .int .i64 0, .int .i64 0, .int .i64 0, .int .i64 0, .bool false, .int .i64 0] rfl rfl 44 #[.int .i64 0, .int .i64 0, .int .i64 0, .int .i64 0, .int .i64 0, .int .i64 0, .int .i64 0, .int .i64 0, .int .i64 0, .bool false, .int .i64 0, .int .i64 0, .bool false, .int .i64 0, .int .i64 0, .int .i64 0, .int .i64 0, .bool false, .int .i64 0] ((b1.block _ (by rw [hS]; omega)).trans (heap_alloc_new w _)) wsizeTele rfl (by simp [Value.oneCell']) ?_))
  · refine bodyPost_ret (results_cell_tmp Try.results15 _ _ w.heap.size cs rfl (run_loadVar_row _ _ _ _ cs (0, 0) _ (setRow_heap _ _ _ _ _ _ ((b1.block _ (by rw [hS]; omega)).trans (heap_alloc_new w _))) Try.underlying44 rfl (by rw [s1]; exact wsizeTele))) rfl ?_
    refine ⟨below_row (hb0.trans (b1.mono (by rw [hS]; omega))) (Nat.le_refl _) cs, Or.inl ⟨x, cs, F, ?_, o1, hI.stable i1 fun g hg => ?_, f1.keep (by omega) (by rw [setRow_size]; exact Nat.le_refl _), rfl⟩⟩
    · unfold Cod.whole
      rw [q1]
      simp only [Option.bind_some, List.length_drop, hl, Nat.sub_self]
      rfl
    · have := (f1 g hg).1
      rw [setRow_other _ _ _ _ (by omega)]
  · refine bodyPost_ret (results_cell_tmp Try.results15 _ _ w.heap.size #[.int .i64 0, .int .i64 0, .int .i64 0, .int .i64 0, .int .i64 0, .int .i64 0, .int .i64 0, .int .i64 0, .int .i64 0, .bool false, .int .i64 0, .int .i64 0, .bool false, .int .i64 0, .int .i64 0, .int .i64 0, .int .i64 0, .bool false, .int .i64 0] rfl (run_loadVar_row _ _ _ _ _ (0, 0) _ (setRow_heap _ _ _ _ _ _ ((b1.block _ (by rw [hS]; omega)).trans (heap_alloc_new w _))) Try.underlying44 rfl wsizeTele)) rfl ?_
    refine ⟨below_row (hb0.trans (b1.mono (by rw [hS]; omega))) (Nat.le_refl _) _, Or.inr ⟨?_, rfl⟩⟩
    unfold Cod.whole
    rcases q1 with q1 | ⟨k, cs, u, lk, x, F, q1, _, _, _, _⟩
    · rw [q1]; rfl
    · rw [q1]
      simp only [Option.bind_some, List.length_drop]
      rw [if_neg (by omega)]
end Go.Proofs.Ythdgpadakmdlkaa.Codec
