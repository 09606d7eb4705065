/-
  The iterator that tells a run's speeds, to whatever loop ranges over it; statements that leave their order open, over a class of worlds.
-/
import Derived.Test.YtjblplaaogbkiaaKinCalls
import Derived.Deep.RegionWith
import Derived.Deep.RegionHeld3
namespace Go.Proofs.Ytjblplaaogbkiaa.Kin
set_option linter.unusedVariables false
set_option linter.unusedSimpArgs false
open Go Go.RowKit Go.Shelf Go.Proofs

attribute [local go_sem] Oper.semAt_some

/- A world of a class. -/
structure Cls (S : World → Prop) : Type where
  w : World
  h : S w
theorem wp_region_cls {P : Program} (S : World → Prop) {id : Nat} {Q : Exit → Act → World → Prop} {a : Act} {w : World} {l : List Oper} (hm : P.follows .mixedOrders = true) (hB : Region.lexB .any l.toArray = true)
    (hS : S w.drew) (h : wpQuiet P l.toArray (fun w' => ∃ u : Cls S, w' = u.w) (fun a' => ∀ w', (∃ u : Cls S, w' = u.w) → Q .normal a' w') l a) : (Code.region id l.toArray true).wp P Q a w :=
  wp_region_quiet (C := fun w' => ∃ u : Cls S, w' = u.w) hm hB ⟨⟨_, hS⟩, rfl⟩ h
theorem cls_call {P : Program} {f : FuncId} {args : Array Value} {S : World → Prop} {u : Cls S} {v : Value} {R : World → Prop}
    (h : Calls P f args u.w fun e w' => e = .returned v ∧ R w') (hR : ∀ w', R w' → S w') : Calls P f args u.w fun e w' => e = .returned v ∧ ∃ u' : Cls S, w' = u'.w :=
  h.mono fun _ w' ⟨he, hw⟩ => ⟨he, ⟨w', hR w' hw⟩, rfl⟩

theorem grown_of_below {w w' : World} (h : Below w.heap.size w w') : w.grownBy w' none := ⟨h.os, h.tape, h.output, h.size, fun k hk _ => h.block k hk⟩
theorem cell_block {w w' : World} {p : Addr} (h : w'.heap[p.block]? = w.heap[p.block]?) : w'.cell? p = w.cell? p := by unfold World.cell?; rw [h]

abbrev Spd : Type := { q : Nat // 1 ≤ q ∧ q ≤ 1000 }
def encq (q : Spd) : Array Value := #[.int .i64 (q.1 : Nat)]
/- What a round leaves: the Kin's numbers, two boxes. -/
structure Kp (b Bk Br : Nat) (W W' : World) : Prop where
  kin : ∀ o, o < 3 → W'.cell? ⟨b, o, none⟩ = W.cell? ⟨b, o, none⟩
  k : W'.heap[Bk]? = W.heap[Bk]?
  r : W'.heap[Br]? = W.heap[Br]?
theorem Kp.trans {b Bk Br : Nat} {A B C : World} (h : Kp b Bk Br A B) (h' : Kp b Bk Br B C) : Kp b Bk Br A C := ⟨fun o ho => (h'.kin o ho).trans (h.kin o ho), h'.k.trans h.k, h'.r.trans h.r⟩
theorem KAt.kp {b u a v Bk Br : Nat} {W W' : World} (h : KAt W b u a v) (k : Kp b Bk Br W W') : KAt W' b u a v :=
  ⟨(k.kin 0 (by omega)).trans h.unit, (k.kin 1 (by omega)).trans h.accel, (k.kin 2 (by omega)).trans h.speed⟩

set_option maxRecDepth 100000 in
set_option maxHeartbeats 2000000 in
theorem steps1_in (n l b u a v Bk Bl Bs Br left s rise : Nat) (ha : 1 ≤ a) (ha2 : a ≤ 1000) (hv1 : 1 ≤ v) (hv : v ≤ 1000) (hs : 1 ≤ s + rise) (hs2 : s ≤ 1000) (hr2 : rise ≤ 1000) (hl2 : left ≤ 2000000)
    (J Jx : List Spd → World → Prop) (W : World) (hJ : AbidesFrom W.heap.size J) (N : Nat) (hN : (runs a v rise left s).length ≤ N)
    (hY : ∀ pre q W1, J pre W1 → pre.length < N → YieldAt Fence.wide (n - 1) Try.prog l (encq q) W1 fun e W' =>
      (e = .returned (.bool true) ∧ J (pre ++ [q]) W' ∧ Kp b Bk Br W1 W') ∨ (e = .returned (.bool false) ∧ Jx (pre ++ [q]) W'))
    (hn : 1 ≤ n) (hK : KAt W b u a v) (hBk : Boxed W Bk 22 (.pointer (some ⟨b, 0, none⟩))) (hBl : W.cell? ⟨Bl, 0, none⟩ = some (.int .i64 left)) (hBs : W.cell? ⟨Bs, 0, none⟩ = some (.int .i64 s)) (hBr : Boxed W Br 3 (.int .i64 rise)) (h0 : J [] W) :
    CallsIn Fence.wide n Try.prog 41 #[.func (.yield l) #[] #[], .pointer (some ⟨Bl, 0, none⟩), .pointer (some ⟨Bs, 0, none⟩), .pointer (some ⟨Bk, 0, none⟩), .pointer (some ⟨Br, 0, none⟩)] W fun e W' => (∃ v, e = .returned v) ∧
      ((∃ ys : List Spd, ys.map Subtype.val = runs a v rise left s ∧ J ys W') ∨ (∃ pre : List Spd, True ∧ Jx pre W')) := by
  refine callsIn_of_wp Try.func41 rfl trivial ?_ rfl
  simp only [Try.ntmps41, List.size_toArray, List.length_cons, List.length_nil, Nat.reduceAdd, Nat.reduceSub, Array.replicate_succ, Array.replicate_zero, List.push_toArray, List.append_toArray, List.nil_append, List.cons_append]
  gi_wp2
  refine wpIn_wide.2 ?_
  refine wp_region_cls (fun w' => Below W.heap.size W w') (by kernel_rfl) (by kernel_rfl) (Below.refl _ _).drew ?_
  have cl : ∀ u : Cls (fun w' => Below W.heap.size W w'), u.w.cell? ⟨Bl, 0, none⟩ = some (.int .i64 left) := fun u => (u.h.cell (p := ⟨Bl, 0, none⟩) (World.block_lt_of_cell? W _ hBl)).trans hBl
  have cs : ∀ u : Cls (fun w' => Below W.heap.size W w'), u.w.cell? ⟨Bs, 0, none⟩ = some (.int .i64 s) := fun u => (u.h.cell (p := ⟨Bs, 0, none⟩) (World.block_lt_of_cell? W _ hBs)).trans hBs
  have ne : Nonempty (Cls (fun w' => Below W.heap.size W w')) := ⟨⟨W, Below.refl _ _⟩⟩
  repeat (go_big_quiet_step (fail))
  refine wpQuiet_nil ?_
  rintro V ⟨⟨_, hV⟩, rfl⟩
  have hJ0 := hJ _ _ _ none h0 (grown_of_below hV) (by intro r e; cases e)
  have hK0 := hK.go hV
  have k0 : Boxed V Bk 22 (.pointer (some ⟨b, 0, none⟩)) := (hV.block _ hBk.lt).trans hBk
  have r0 : Boxed V Br 3 (.int .i64 rise) := (hV.block _ hBr.lt).trans hBr
  clear cl cs ne
  gi_wp2
  gi_loopw [6, 7] (fun p q wr => ∃ (pre : List Spd) (l1 s1 : Nat), p = .int .i64 l1 ∧ q = .int .i64 s1 ∧ l1 ≤ left ∧ 1 ≤ s1 + rise ∧ s1 ≤ 1000 ∧ Hid (pre.map Subtype.val ++ runs a v rise l1 s1 = runs a v rise left s) ∧ J pre wr ∧ KAt wr b u a v ∧ Hid (Boxed wr Bk 22 (.pointer (some ⟨b, 0, none⟩)) ∧ Boxed wr Br 3 (.int .i64 rise)))
    (fun p q wr => (intOf p).toNat)
  case atStart => exact ⟨[], left, s, rfl, rfl, Nat.le_refl _, hs, hs2, rfl, hJ0, hK0, k0, r0⟩
  case round =>
    obtain ⟨pre, l1, s1, rfl, rfl, hl1, hs1, hs3, HR, hJ1, hK1, HB⟩ := hrel
    by_cases hz : l1 = 0
    · subst hz
      have e := HR.out
      rw [runs_nil, List.append_nil] at e
      have HE : Hid (pre.map Subtype.val = runs a v rise left s) := e
      clear e HR
      gi_wp2
      go_end0
      exact ⟨⟨_, rfl⟩, .inl ⟨pre, HE.out, hJ1⟩⟩
    · have st := step_of (a := a) (v := v) (rise := rise) (left := l1) (s := s1) ha hv1 (by omega) hs1
      have er := runs_cons (a := a) (v := v) (rise := rise) (left := l1) (s := s1) ha hv1 (by omega) hs1
      obtain ⟨q, hq⟩ : ∃ q, nxt a l1 (min (s1 + rise) v) = q := ⟨_, rfl⟩
      have cN := fun (w1 : World) (hb : Below wr.heap.size wr w1) => next_any b u a v l1 (min (s1 + rise) v) w1 (hK1.go hb) ha ha2 hv (by omega) (by omega) (by omega) (by omega)
      rw [hq] at st er cN
      have hq1 := st.pos
      have hqs := st.rises
      have hqv := st.top
      have hql := st.le
      have HQ : Hid (pre.map Subtype.val ++ (q :: runs a v rise (l1 - q) q) = runs a v rise left s) := by rw [← er]; exact HR.out
      have hlen : pre.length < N := by
        have := congrArg List.length HQ.out
        simp at this
        omega
      have cN' : ∀ (w1 : World), Below wr.heap.size wr w1 → Calls Try.prog 42 #[.pointer (some ⟨b, 0, none⟩), .int .i64 l1, .int .i64 (if (v : Int) < (s1 : Int) + (rise : Int) then (v : Int) else (s1 : Int) + (rise : Int))] w1 fun e w' => e = .returned (.int .i64 q) ∧ Below w1.heap.size w1 w' := by
        intro w1 hb
        have := cN w1 hb
        have em : ((min (s1 + rise) v : Nat) : Int) = if (v : Int) < (s1 : Int) + (rise : Int) then (v : Int) else (s1 : Int) + (rise : Int) := by split <;> omega
        rw [em] at this
        exact this
      clear st er cN hq HR
      have lk := HB.out.1.cell
      have lr := HB.out.2.cell
      have lt1 := HB.out.1.lt
      have lt2 := HB.out.2.lt
      have lt3 := hK1.lt
      have l2 := hK1.speed
      have qk : ∀ u : Cls (fun w' => Below wr.heap.size wr w'), u.w.cell? ⟨Bk, 0, none⟩ = some (.pointer (some ⟨b, 0, none⟩)) := fun u => (u.h.cell (p := ⟨Bk, 0, none⟩) lt1).trans lk
      have qr : ∀ u : Cls (fun w' => Below wr.heap.size wr w'), u.w.cell? ⟨Br, 0, none⟩ = some (.int .i64 rise) := fun u => (u.h.cell (p := ⟨Br, 0, none⟩) lt2).trans lr
      have q2 : ∀ u : Cls (fun w' => Below wr.heap.size wr w'), u.w.cell? ⟨b, 2, none⟩ = some (.int .i64 v) := fun u => (u.h.cell (p := ⟨b, 2, none⟩) lt3).trans l2
      have ne : Nonempty (Cls (fun w' => Below wr.heap.size wr w')) := ⟨⟨wr, Below.refl _ _⟩⟩
      gi_wp2
      refine wpIn_wide.2 ?_
      refine wp_region_cls (fun w' => Below wr.heap.size wr w') (by kernel_rfl) (by kernel_rfl) (Below.refl _ _).drew ?_
      repeat (go_big_quiet_step ((go_at_call 42; exact cls_call (cN' _ (Cls.h _)) (fun w' hw => bcat (Cls.h _) hw))))
      refine wpQuiet_nil ?_
      rintro V1 ⟨⟨_, hV1⟩, rfl⟩
      obtain ⟨fn, tmps, assign, body, hyy, hR⟩ := hY pre ⟨q, hq1, by omega⟩ V1 (hJ _ _ _ none hJ1 (grown_of_below hV1) (by intro r e; cases e)) hlen
      simp only [encq] at hyy
      clear qk qr q2 ne cN'
      gi_wp2
      all_goals
        refine hR.mono ?_
        rintro e W3 (⟨rfl, hJ3, hk3⟩ | ⟨rfl, hJx3⟩)
        · gi_wp2
          go_roundw
          case rel =>
            refine ⟨pre ++ [⟨q, hq1, by omega⟩], l1 - q, q, by go_num, rfl, by omega, by omega, by omega, ?_, hJ3, (hK1.go hV1).kp hk3, hk3.k.trans ((hV1.block _ lt1).trans HB.out.1), hk3.r.trans ((hV1.block _ lt2).trans HB.out.2)⟩
            have := HQ.out
            unfold Hid
            rw [← this]
            simp
          case measure => simp [intOf]; omega
        · gi_wp2
          refine bodyPost_ret (results_none rfl _ _ _) rfl ?_
          exact ⟨⟨_, rfl⟩, .inr ⟨pre ++ [⟨q, hq1, by omega⟩], trivial, hJx3⟩⟩
theorem steps_stops (n b u a v Bk Bl Bs Br left s rise : Nat) (ha : 1 ≤ a) (ha2 : a ≤ 1000) (hv1 : 1 ≤ v) (hv : v ≤ 1000) (hs : 1 ≤ s + rise) (hs2 : s ≤ 1000) (hr2 : rise ≤ 1000) (hl2 : left ≤ 2000000) (hn : 1 ≤ n)
    (w : World) (hK : KAt w b u a v) (hBk : Boxed w Bk 22 (.pointer (some ⟨b, 0, none⟩))) (hBl : w.cell? ⟨Bl, 0, none⟩ = some (.int .i64 left)) (hBs : w.cell? ⟨Bs, 0, none⟩ = some (.int .i64 s)) (hBr : Boxed w Br 3 (.int .i64 rise)) :
    SeqStopsK Fence.wide n Try.prog 41 #[.pointer (some ⟨Bl, 0, none⟩), .pointer (some ⟨Bs, 0, none⟩), .pointer (some ⟨Bk, 0, none⟩), .pointer (some ⟨Br, 0, none⟩)] encq (Kp b Bk Br) (fun ys => ys.map Subtype.val = runs a v rise left s) (fun pre => True) (runs a v rise left s).length w := by
  intro l J Jx W hW hJ hJx hY h0
  exact steps1_in n l b u a v Bk Bl Bs Br left s rise ha ha2 hv1 hv hs hs2 hr2 hl2 J Jx W hJ _ (Nat.le_refl _) hY hn (hK.go hW) ((hW.block _ hBk.lt).trans hBk)
    ((hW.cell (p := ⟨Bl, 0, none⟩) (World.block_lt_of_cell? w _ hBl)).trans hBl) ((hW.cell (p := ⟨Bs, 0, none⟩) (World.block_lt_of_cell? w _ hBs)).trans hBs) ((hW.block _ hBr.lt).trans hBr) h0
end Go.Proofs.Ytjblplaaogbkiaa.Kin
