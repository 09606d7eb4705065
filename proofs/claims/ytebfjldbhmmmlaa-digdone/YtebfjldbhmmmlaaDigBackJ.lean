/-
  The jobs from the last on: what slices.Backward tells to whatever ranges over it.
-/
import Derived.Test.YtebfjldbhmmmlaaDgU
import Derived.Test.YtebfjldbhmmmlaaDigJob
namespace Go.Proofs.Ytebfjldbhmmmlaa.Dig
set_option linter.unusedVariables false
set_option linter.unusedSimpArgs false
open Go Go.RowKit Go.Shelf Go.Proofs Go.Proofs.Ytebfjldbhmmmlaa.Grid
attribute [local go_sem] Oper.semAt_some

def jobV (e : Jb) : Array Value := (jobL e).toArray
theorem aggJob (w : World) : (isAgg 41).run Try.prog w = .ok true w := by unfold isAgg; rw [Sem.run_bind, run_underlying Try.underlying41 w]; rfl
/- What is told: the place, and the thing. -/
def encJ (e : Nat × Jb) : Array Value := #[.int .i64 e.1, .agg (jobV e.2)]
structure BkJAt (w : World) (Bs : Nat) (a : Option Addr) (p : Addr) (n cap : Nat) (css : Nat → Jb) : Prop where
  box : w.heap[Bs]? = some (.cells #[.slice a n cap] 32 (0, 0))
  ad : 0 < n → a = some p
  item : ∀ i, i < n → ∀ j z, (jobV (css i))[j]? = some z → w.cell? ((p.add (i * 9)).add j) = some z
theorem BkJAt.keep {w w' : World} {Bs : Nat} {a : Option Addr} {p : Addr} {n cap : Nat} {css : Nat → Jb} (h : BkJAt w Bs a p n cap css) (k : K2 Bs p.block w w') : BkJAt w' Bs a p n cap css :=
  ⟨k.1.trans h.box, h.ad, fun i hi j z hj => (cell_same (by rw [block_add, block_add]; exact k.2)).trans (h.item i hi j z hj)⟩
set_option maxRecDepth 100000 in
set_option maxHeartbeats 2000000 in
theorem back1J_in (m : Nat) (l Bs : Nat) (a : Option Addr) (p : Addr) (n cap : Nat) (css : Nat → Jb) (J Jx : List (Nat × Jb) → World → Prop) (w : World)
    (hJ : AbidesFrom w.heap.size J)
    (hY : ∀ pre c W1, J pre W1 → pre.length < (down css n 0).length → YieldAt Fence.wide (m - 1) Try.prog l (encJ c) W1 fun e W' =>
      (e = .returned (.bool true) ∧ J (pre ++ [c]) W' ∧ K2 Bs p.block W1 W') ∨ (e = .returned (.bool false) ∧ Jx (pre ++ [c]) W'))
    (hm : 1 ≤ m) (hn : n ≤ 1000000) (hC : BkJAt w Bs a p n cap css) (h0 : J [] w) :
    CallsIn Fence.wide m Try.prog 61 #[.func (.yield l) #[] #[], .pointer (some ⟨Bs, 0, none⟩)] w fun e W' => (∃ v, e = .returned v) ∧
      ((∃ ys : List (Nat × Jb), ys = down css n 0 ∧ J ys W') ∨ (∃ pre : List (Nat × Jb), pre <+: down css n 0 ∧ Jx pre W')) := by
  have g0 : w.cell? ⟨Bs, 0, none⟩ = some (.slice a n cap) := cell_of hC.box 0
  have HC : Hid (∀ wr, K2 Bs p.block w wr → BkJAt wr Bs a p n cap css) := fun wr k => hC.keep k
  have HK0 : Hid (K2 Bs p.block w w) := ⟨rfl, rfl⟩
  have HJ0 : Hid (J (down css n n) w) := by rw [down_none]; exact h0
  clear hC h0
  refine callsIn_of_wp Try.func61 rfl trivial ?_ rfl
  simp only [Try.ntmps61, List.size_toArray, List.length_cons, List.length_nil, Nat.reduceAdd, Nat.reduceSub, Array.replicate_succ, Array.replicate_zero, List.push_toArray, List.append_toArray, List.nil_append, List.cons_append]
  gi_wp2
  clear g0
  gi_loopw [3] (fun v wr => ∃ i : Nat, i ≤ n ∧ v = .int .i64 ((i : Int) - 1) ∧ Hid (J (down css n i) wr) ∧ Hid (K2 Bs p.block w wr)) (fun v _ => (intOf v + 1).toNat)
  case atStart => exact ⟨n, Nat.le_refl _, rfl, HJ0, HK0⟩
  case round =>
    clear HJ0 HK0
    obtain ⟨i, hi, rfl, HJ, HK⟩ := hrel
    by_cases hlt : 0 < i
    · obtain ⟨k, hk⟩ : ∃ k, i = k + 1 := ⟨i - 1, by omega⟩
      subst hk
      have cc := HC.out _ HK.out
      have g1 : wr.cell? ⟨Bs, 0, none⟩ = some (.slice a n cap) := cell_of cc.box 0
      obtain rfl := cc.ad (by omega)
      have hit := cc.item k (by omega)
      have hsz : (jobV (css k)).size = 9 := rfl
      have ek : ((k + 1 : Nat) : Int) - 1 = (k : Int) := by omega
      rw [ek]
      have hkn : (k : Int) < (n : Int) := by omega
      have hk0 : (0 : Int) ≤ (k : Int) := by omega
      have HS : Hid (down css n k = down css n (k + 1) ++ [(k, css k)]) := down_step css (by omega)
      have HP : Hid (down css n (k + 1) ++ [(k, css k)] <+: down css n 0) := by rw [← HS.out]; exact down_pre css k (by omega)
      have hY' := hY (down css n (k + 1)) (k, css k) wr HJ.out (by rw [down_len, down_len]; omega)
      simp only [encJ] at hY'
      generalize jobV (css k) = ck at *
      have hzi : (Try.prog.info? 41).map (·.size) = some ck.size := by rw [hsz]; exact info_job
      obtain ⟨fn, tmps, assign, body, hyy, hR⟩ := hY'
      clear hsz cc ek
      gi_wp2_with (refine wpListIn_loadAgg rfl 41 (.tmp 15) rfl (p.add (k * 9)) ck rfl hit (aggJob _) hzi ?_)
      refine hR.mono ?_
      rintro e W3 (⟨rfl, hJ3, hk3⟩ | ⟨rfl, hJx3⟩)
      · gi_wp2
        go_roundw
        case rel => exact ⟨k, by omega, rfl, by rw [HS.out]; exact hJ3, HK.out.trans hk3⟩
        case measure => simp [intOf]
      · gi_wp2
        exact bodyPost_ret (results_none rfl _ _ _) rfl ⟨⟨_, rfl⟩, .inr ⟨_, HP.out, hJx3⟩⟩
    · obtain rfl : i = 0 := by omega
      gi_wp2
      go_end0
      exact ⟨⟨_, rfl⟩, .inl ⟨_, rfl, HJ.out⟩⟩
theorem backJ_stops (m : Nat) (hm : 1 ≤ m) (Bs : Nat) (a : Option Addr) (p : Addr) (n cap : Nat) (css : Nat → Jb) (hn : n ≤ 1000000) (w : World) (hC : BkJAt w Bs a p n cap css) (hp : 0 < n → p.block < w.heap.size) :
    SeqStopsK Fence.wide m Try.prog 61 #[.pointer (some ⟨Bs, 0, none⟩)] encJ (K2 Bs p.block) (fun ys => ys = down css n 0) (fun pre => pre <+: down css n 0) (down css n 0).length w := by
  intro l J Jx W' hW hJ hJx hY h0
  refine back1J_in m l Bs a p n cap css J Jx W' hJ hY hm hn ?_ h0
  rcases Nat.eq_zero_or_pos n with e | e
  · subst e
    exact ⟨(hW.block _ (lt_of_heap hC.box)).trans hC.box, hC.ad, fun i hi => by omega⟩
  · exact hC.keep ⟨hW.block _ (lt_of_heap hC.box), hW.block _ (hp e)⟩
theorem backwardJ_any (sa : Option Addr) (sn sc : Nat) (w : World) : Calls Try.prog 47 #[.slice sa sn sc] w fun e w' => e = .returned (.func (.func 61) #[] #[.pointer (some ⟨w.heap.size, 0, none⟩)]) ∧ w'.heap[w.heap.size]? = some (.cells #[.slice sa sn sc] 32 (0, 0)) ∧ Below w.heap.size w w' := by
  have hb : Below w.heap.size w (w.alloc (.cells #[.slice sa sn sc] 32)) := (Below.refl _ _).alloc (Nat.le_refl _) _
  have hn := heap_alloc_new w (.cells #[.slice sa sn sc] 32)
  go_enter Try.func47, Try.ntmps47
  go_wp2
  go_ret
  exact ⟨rfl, hn, hb⟩
end Go.Proofs.Ytebfjldbhmmmlaa.Dig
