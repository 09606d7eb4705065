/-
  The stacks from the last on: what slices.Backward tells to whatever ranges over it.
  Statements that leave their order open, within a round of a loop over an iterator; what is left behind one, in whatever order.
-/
import Derived.Test.YtebfjldbhmmmlaaDigFree
import Derived.OrdersIn
import Derived.RangeFuncCalls
namespace Go.Proofs.Ytebfjldbhmmmlaa.Dig
set_option linter.unusedVariables false
set_option linter.unusedSimpArgs false
open Go Go.RowKit Go.Shelf Go.Proofs Go.Proofs.Ytebfjldbhmmmlaa.Grid
attribute [local go_sem] Oper.semAt_some

section
variable {F : Fence} {n : Nat} {ops : Array Oper} {rest : List Oper} {o : Oper} {a : Act} {w : World} {Q : Exit → Act → World → Prop}
theorem wpListIn_loadAgg (hg : o.guard = none) (ty : TypeId) (x : Operand) (ho : o.op = .load ty x) (p : Addr) (cs : Array Value) (hx : a.eval x = .pointer (some p)) (hc : ∀ j z, cs[j]? = some z → w.cell? (p.add j) = some z) (hagg : (isAgg ty).run Try.prog w = .ok true w) (hi : (Try.prog.info? ty).map (·.size) = some cs.size)
    (h : wpListIn F n Try.prog ops Q rest (a.put o.dst (.agg cs)) w) : wpListIn F n Try.prog ops Q (o :: rest) a w := by
  refine wpListIn_plain hg fun K hK => ⟨fun f hf => ?_, ?_⟩
  · unfold Oper.about at hf
    rw [ho] at hf
    cases hf
  · have e : o.semAt F.round a.eval = execOp a.eval o := by
      unfold Oper.semAt
      cases F.round <;> simp [ho]
    rw [e, run_load_op ty x ho p cs hx hc hagg hi, Oper.uponIn_value]
    exact hK _ _ h
end
/- From the last one down to i. -/
def down {α : Type} (css : Nat → α) (n i : Nat) : List (Nat × α) := ((List.range' i (n - i)).reverse).map fun k => (k, css k)
theorem down_none {α : Type} (css : Nat → α) (n : Nat) : down css n n = [] := by unfold down; simp
theorem down_step {α : Type} (css : Nat → α) {n i : Nat} (h : i < n) : down css n i = down css n (i + 1) ++ [(i, css i)] := by
  unfold down
  rw [show n - i = (n - (i + 1)) + 1 by omega, List.range'_succ, List.reverse_cons, List.map_append]
  rfl
theorem down_len {α : Type} (css : Nat → α) (n i : Nat) : (down css n i).length = n - i := by unfold down; simp
theorem down_pre {α : Type} (css : Nat → α) {n : Nat} : ∀ i, i ≤ n → down css n i <+: down css n 0
  | 0, _ => List.prefix_rfl
  | i + 1, h => by
    refine List.IsPrefix.trans ?_ (down_pre css i (by omega))
    rw [down_step css (show i < n by omega)]
    exact List.prefix_append _ _
/- A beginning of all is all from some place on. -/
theorem down_is {α : Type} {css : Nat → α} {n : Nat} {pre : List (Nat × α)} {x : Nat × α} (h : pre ++ [x] <+: down css n 0) : pre.length < n ∧ x = (n - 1 - pre.length, css (n - 1 - pre.length)) := by
  have hl := h.length_le
  rw [down_len, List.length_append, List.length_singleton] at hl
  have hlt : pre.length < n := by omega
  refine ⟨hlt, ?_⟩
  have h1 : (down css n 0)[pre.length]? = some x := by
    obtain ⟨r, hr⟩ := h
    rw [← hr, List.append_assoc, List.getElem?_append_right (Nat.le_refl _)]
    simp
  have h2 : (down css n 0)[pre.length]? = some (n - 1 - pre.length, css (n - 1 - pre.length)) := by
    unfold down
    rw [List.getElem?_map, List.getElem?_reverse (by simp; omega), List.getElem?_range' (by simp; omega)]
    simp
  rw [h1] at h2
  exact Option.some.inj h2
/- The variable that holds the list, and the list's own row, stay. -/
def K2 (Bs pb : Nat) (W W' : World) : Prop := W'.heap[Bs]? = W.heap[Bs]? ∧ W'.heap[pb]? = W.heap[pb]?
theorem K2.trans {Bs pb : Nat} {A B C : World} (h : K2 Bs pb A B) (h' : K2 Bs pb B C) : K2 Bs pb A C := ⟨h'.1.trans h.1, h'.2.trans h.2⟩
abbrev StkE := Cell × (Option Addr × Nat × Nat)
def stkV (e : StkE) : Array Value := #[.int .i64 e.1.1, .int .i64 e.1.2, .slice e.2.1 e.2.2.1 e.2.2.2]
/- What is told: the place, and the thing. -/
def enc (e : Nat × StkE) : Array Value := #[.int .i64 e.1, .agg (stkV e.2)]
structure BkAt (w : World) (Bs : Nat) (a : Option Addr) (p : Addr) (n cap : Nat) (css : Nat → StkE) : Prop where
  box : w.heap[Bs]? = some (.cells #[.slice a n cap] 24 (0, 0))
  ad : 0 < n → a = some p
  item : ∀ i, i < n → ∀ j z, (stkV (css i))[j]? = some z → w.cell? ((p.add (i * 3)).add j) = some z
theorem BkAt.keep {w w' : World} {Bs : Nat} {a : Option Addr} {p : Addr} {n cap : Nat} {css : Nat → StkE} (h : BkAt w Bs a p n cap css) (k : K2 Bs p.block w w') : BkAt w' Bs a p n cap css :=
  ⟨k.1.trans h.box, h.ad, fun i hi j z hj => (cell_same (by rw [block_add, block_add]; exact k.2)).trans (h.item i hi j z hj)⟩
set_option maxRecDepth 100000 in
set_option maxHeartbeats 2000000 in
theorem back1_in (m : Nat) (l Bs : Nat) (a : Option Addr) (p : Addr) (n cap : Nat) (css : Nat → StkE) (J Jx : List (Nat × StkE) → World → Prop) (w : World)
    (hJ : AbidesFrom w.heap.size J)
    (hY : ∀ pre c W1, J pre W1 → pre.length < (down css n 0).length → YieldAt Fence.wide (m - 1) Try.prog l (enc c) W1 fun e W' =>
      (e = .returned (.bool true) ∧ J (pre ++ [c]) W' ∧ K2 Bs p.block W1 W') ∨ (e = .returned (.bool false) ∧ Jx (pre ++ [c]) W'))
    (hm : 1 ≤ m) (hn : n ≤ 1000000) (hC : BkAt w Bs a p n cap css) (h0 : J [] w) :
    CallsIn Fence.wide m Try.prog 55 #[.func (.yield l) #[] #[], .pointer (some ⟨Bs, 0, none⟩)] w fun e W' => (∃ v, e = .returned v) ∧
      ((∃ ys : List (Nat × StkE), ys = down css n 0 ∧ J ys W') ∨ (∃ pre : List (Nat × StkE), pre <+: down css n 0 ∧ Jx pre W')) := by
  have g0 : w.cell? ⟨Bs, 0, none⟩ = some (.slice a n cap) := cell_of hC.box 0
  have HC : Hid (∀ wr, K2 Bs p.block w wr → BkAt wr Bs a p n cap css) := fun wr k => hC.keep k
  have HK0 : Hid (K2 Bs p.block w w) := ⟨rfl, rfl⟩
  have HJ0 : Hid (J (down css n n) w) := by rw [down_none]; exact h0
  clear hC h0
  refine callsIn_of_wp Try.func55 rfl trivial ?_ rfl
  simp only [Try.ntmps55, List.size_toArray, List.length_cons, List.length_nil, Nat.reduceAdd, Nat.reduceSub, Array.replicate_succ, Array.replicate_zero, List.push_toArray, List.append_toArray, List.nil_append, List.cons_append]
  gi_wp2
  clear g0
  gi_loopw [3] (fun v wr => ∃ i : Nat, i ≤ n ∧ v = .int .i64 ((i : Int) - 1) ∧ Hid (J (down css n i) wr) ∧ Hid (K2 Bs p.block w wr)) (fun v _ => (intOf v + 1).toNat)
  case atStart => exact ⟨n, Nat.le_refl _, rfl, HJ0, HK0⟩
  case round =>
    clear HJ0 HK0
    obtain ⟨i, hi, rfl, HJ, HK⟩ := hrel
    by_cases hlt : 0 < i
    · obtain ⟨k, hk⟩ : ∃ k, i = k + 1 := ⟨i - 1, by omega⟩
      subst hk
      have cc := HC.out _ HK.out
      have g1 : wr.cell? ⟨Bs, 0, none⟩ = some (.slice a n cap) := cell_of cc.box 0
      obtain rfl := cc.ad (by omega)
      have hit := cc.item k (by omega)
      have hsz : (stkV (css k)).size = 3 := rfl
      have ek : ((k + 1 : Nat) : Int) - 1 = (k : Int) := by omega
      rw [ek]
      have hkn : (k : Int) < (n : Int) := by omega
      have hk0 : (0 : Int) ≤ (k : Int) := by omega
      have HS : Hid (down css n k = down css n (k + 1) ++ [(k, css k)]) := down_step css (by omega)
      have HP : Hid (down css n (k + 1) ++ [(k, css k)] <+: down css n 0) := by rw [← HS.out]; exact down_pre css k (by omega)
      have hY' := hY (down css n (k + 1)) (k, css k) wr HJ.out (by rw [down_len, down_len]; omega)
      simp only [enc] at hY'
      generalize stkV (css k) = ck at *
      have hzi : (Try.prog.info? 45).map (·.size) = some ck.size := by rw [hsz]; exact info_stack
      obtain ⟨fn, tmps, assign, body, hyy, hR⟩ := hY'
      clear hsz cc ek
      gi_wp2_with (refine wpListIn_loadAgg rfl 45 (.tmp 15) rfl (p.add (k * 3)) ck rfl hit (aggStack _) hzi ?_)
      refine hR.mono ?_
      rintro e W3 (⟨rfl, hJ3, hk3⟩ | ⟨rfl, hJx3⟩)
      · gi_wp2
        go_roundw
        case rel => exact ⟨k, by omega, rfl, by rw [HS.out]; exact hJ3, HK.out.trans hk3⟩
        case measure => simp [intOf]
      · gi_wp2
        exact bodyPost_ret (results_none rfl _ _ _) rfl ⟨⟨_, rfl⟩, .inr ⟨_, HP.out, hJx3⟩⟩
    · obtain rfl : i = 0 := by omega
      gi_wp2
      go_end0
      exact ⟨⟨_, rfl⟩, .inl ⟨_, rfl, HJ.out⟩⟩
theorem back_stops (m : Nat) (hm : 1 ≤ m) (Bs : Nat) (a : Option Addr) (p : Addr) (n cap : Nat) (css : Nat → StkE) (hn : n ≤ 1000000) (w : World) (hC : BkAt w Bs a p n cap css) (hp : 0 < n → p.block < w.heap.size) :
    SeqStopsK Fence.wide m Try.prog 55 #[.pointer (some ⟨Bs, 0, none⟩)] enc (K2 Bs p.block) (fun ys => ys = down css n 0) (fun pre => pre <+: down css n 0) (down css n 0).length w := by
  intro l J Jx W' hW hJ hJx hY h0
  refine back1_in m l Bs a p n cap css J Jx W' hJ hY hm hn ?_ h0
  rcases Nat.eq_zero_or_pos n with e | e
  · subst e
    exact ⟨(hW.block _ (lt_of_heap hC.box)).trans hC.box, hC.ad, fun i hi => by omega⟩
  · exact hC.keep ⟨hW.block _ (lt_of_heap hC.box), hW.block _ (hp e)⟩
theorem backward_any (sa : Option Addr) (sn sc : Nat) (w : World) : Calls Try.prog 36 #[.slice sa sn sc] w fun e w' => e = .returned (.func (.func 55) #[] #[.pointer (some ⟨w.heap.size, 0, none⟩)]) ∧ w'.heap[w.heap.size]? = some (.cells #[.slice sa sn sc] 24 (0, 0)) ∧ Below w.heap.size w w' := by
  have hb : Below w.heap.size w (w.alloc (.cells #[.slice sa sn sc] 24)) := (Below.refl _ _).alloc (Nat.le_refl _) _
  have hn := heap_alloc_new w (.cells #[.slice sa sn sc] 24)
  go_enter Try.func36, Try.ntmps36
  go_wp2
  go_ret
  exact ⟨rfl, hn, hb⟩
end Go.Proofs.Ytebfjldbhmmmlaa.Dig
namespace Go.Proofs.Ytebfjldbhmmmlaa.Dig
set_option linter.unusedVariables false
set_option linter.unusedSimpArgs false
open Go Go.RowKit Go.Shelf Go.Proofs Go.Proofs.Ytebfjldbhmmmlaa.Grid
def noDefer (l : List Oper) : Bool := l.all fun o => match o.op with
  | .defer _ => false
  | _ => true
theorem noDefer_at {l : List Oper} (h : noDefer l = true) {i : Nat} {o : Oper} (hi : l.toArray[i]? = some o) : ∀ c, o.op ≠ .defer c := by
  intro c hc
  have hm : o ∈ l := by
    rw [List.getElem?_toArray] at hi
    exact List.mem_of_getElem? hi
  have := List.all_eq_true.1 h o hm
  rw [hc] at this
  cases this
theorem op_round {l n : Nat} {P : Program} {o : Oper} {a : Act} {w : World} {K : Act → World → Prop} {Q : Exit → Act → World → Prop} (hd : ∀ c, o.op ≠ .defer c) (h : o.wp P a w K Q) : o.wpIn (Fence.wide.inRound l) n P a w K Q := by
  unfold Oper.wpIn
  refine ⟨fun _ _ => trivial, ?_⟩
  rw [Oper.semAt_plain _ _ _ hd]
  unfold Oper.wp at h
  generalize (execOp a.eval o).run P w = r at *
  cases r with
  | ok x w' =>
    cases x <;> simp only [Oper.upon, Oper.uponIn] at h ⊢ <;>
      first
        | exact h
        | exact ⟨fun hh => (by cases hh), CallsIn.inRound l (callsIn_wide.2 h)⟩
        | exact ⟨fun hh => (by cases hh), fun c cs _ => by obtain ⟨v, w2, q, s⟩ := h c cs; exact ⟨v, w2, q, stepsIn_wide.2 s⟩⟩
        | exact h.elim
  | halt x w' => cases x <;> simp only [Oper.upon, Oper.uponIn] at h ⊢ <;> exact h
theorem any_round {l n : Nat} {P : Program} {md : Region.Mode} {ops : Array Oper} {Q : Exit → Act → World → Prop} (hO : ∀ a w, ¬ Q .outgrown a w) (hd : ∀ (i : Nat) (o : Oper), ops[i]? = some o → ∀ c, o.op ≠ .defer c) : ∀ (fuel : Nat) (listed : Array Bool) (a : Act) (w : World), wpAny P md ops Q fuel listed a w → wpAnyIn (Fence.wide.inRound l) n P md ops Q fuel listed a w
  | 0, _, _, _, h => h
  | fuel + 1, listed, a, w, h => ⟨h.1, fun i hi => by
      have h2 := wpOp_mono (fun a' w' h' => any_round (l := l) (n := n) hO hd fuel _ a' w' h') (h.2 i hi)
      unfold wpOpIn
      unfold wpOp at h2
      cases ho : ops[i]? with
      | none => simpa [ho] using h2
      | some o =>
        simp only [ho] at h2 ⊢
        by_cases hw : Region.wanted o (yielded ops a.tmps) = true
        · rw [if_pos hw] at h2 ⊢
          rcases h2 with h2 | ⟨_, a', w', h3⟩
          · exact op_round (hd i o ho) h2
          · exact (hO a' w' h3).elim
        · rw [if_neg hw] at h2 ⊢
          exact ⟨fun _ _ => trivial, h2⟩⟩
theorem start_round {l n : Nat} {P : Program} {S : World → Prop} {Q : Exit → Act → World → Prop} {id : Nat} {a : Act} {w : World} {ls : List Oper} (N : Nat) (hN : ls.length = N) (hm : P.follows .mixedOrders = true) (hd : noDefer ls = true) (hO : ∀ a w, ¬ Q .outgrown a w)
    (hS : S w.drew) (h : wpAnyH P .any ls.toArray Q S N (Array.replicate N false) a w.drew) : (Code.region id ls.toArray true).wpIn (Fence.wide.inRound l) n P Q a w := by
  subst hN
  refine wpIn_region_any hm (any_round hO (fun i o hi => noDefer_at hd hi) _ _ _ _ ?_)
  have := wpAny_of_held _ _ _ _ h
  simpa using this

/- It ends well, and R holds behind it. -/
def onlyN (R : Act → World → Prop) : Exit → Act → World → Prop
  | .normal, a, w => R a w
  | _, _, _ => False
theorem wp_via {P : Program} {c : Code} {Q : Exit → Act → World → Prop} {a : Act} {w : World} (R : Act → World → Prop) (h : c.wp P (onlyN R) a w) (h2 : ∀ a w, R a w → Q .normal a w) : c.wp P Q a w :=
  wp_mono h (fun e a w hq => by cases e <;> first | exact h2 _ _ hq | exact hq.elim)
theorem wpIn_via {F : Fence} {n : Nat} {P : Program} {c : Code} {Q : Exit → Act → World → Prop} {a : Act} {w : World} (R : Act → World → Prop) (h : c.wpIn F n P (onlyN R) a w) (h2 : ∀ a w, R a w → Q .normal a w) : c.wpIn F n P Q a w :=
  wpIn_mono h (fun e a w hq => by cases e <;> first | exact h2 _ _ hq | exact hq.elim)
theorem onlyN_out (R : Act → World → Prop) : ∀ a w, ¬ onlyN R .outgrown a w := fun _ _ h => h
end Go.Proofs.Ytebfjldbhmmmlaa.Dig
