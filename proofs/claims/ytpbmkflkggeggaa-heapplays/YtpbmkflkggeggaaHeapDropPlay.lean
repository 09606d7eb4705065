/-
  Drop, of those of which one function tells true.
-/
import Derived.Test.YtpbmkflkggeggaaHeapDrop
namespace Go.Proofs.Ytpbmkflkggeggaa.Hp
set_option linter.unusedVariables false
set_option linter.unusedSimpArgs false
open Go Go.RowKit Go.Shelf Go.Proofs
attribute [local go_sem] Oper.semAt_some

theorem eql_dropPlay (u : World) (nb : Nat) : (binOp .eql 43 (.func (.func 24) #[] #[.pointer (some ⟨nb, 0, none⟩)]) .nilFunc).run Try.prog u = .ok (.bool false) u := by kernel_rfl
set_option maxRecDepth 100000 in
set_option maxHeartbeats 4000000 in
theorem dropPlay_in (B b : Nat) (v : Value) (s : List It) (c : Nat) (nb : Nat) (p : Int × Int → Bool) (w : World) (hH : HpAt B w b v s c) (hm : s.length ≤ 100000)
    (hf : ∀ W, Below w.heap.size w W → ∀ k n, Calls Try.prog 24 #[.agg #[.int .i64 k, .int .i64 n], .pointer (some ⟨nb, 0, none⟩)] W fun e W' => e = .returned (.bool (p (k, n))) ∧ Below W.heap.size W W') :
    CallsIn Fence.wide 9 Try.prog 23 #[.pointer (some ⟨b, 0, none⟩), (.func (.func 24) #[] #[.pointer (some ⟨nb, 0, none⟩)])] w fun e w' => e = .returned (.int .i64 (went p s : Nat)) ∧ ∃ v', HpAt B w' b v' (stay p s) c ∧ Tn b v v' w w' := by
  have eq0 := fun u => eql_dropPlay u nb
  have hbl := hH.lt
  obtain ⟨V0, hV0⟩ : ∃ V, (((w.alloc (.cells #[(.func (.func 24) #[] #[.pointer (some ⟨nb, 0, none⟩)])] 43)).alloc (.cells #[.slice none 0 0] 61)).alloc (.cells #[.int .i64 0] 3)).alloc (.cells #[.pointer (some ⟨b, 0, none⟩)] 24) = V := ⟨_, rfl⟩
  have b0 : Below w.heap.size w V0 := by rw [← hV0]; exact ((((Below.refl _ _).alloc (Nat.le_refl _) _).alloc (by simp) _).alloc (by rw [World.size_alloc, World.size_alloc]; omega) _).alloc (by rw [World.size_alloc, World.size_alloc, World.size_alloc]; omega) _
  have s0 : V0.heap.size = w.heap.size + 4 := by rw [← hV0, World.size_alloc, World.size_alloc, World.size_alloc, World.size_alloc]
  have y0 : Boxed V0 w.heap.size 43 (.func (.func 24) #[] #[.pointer (some ⟨nb, 0, none⟩)]) := by rw [← hV0]; exact (((Boxed.new _ _ _).alloc _).alloc _).alloc _
  have k0 : Boxed V0 (w.heap.size + 1) 61 (.slice none 0 0) := by
    rw [← hV0]
    have := ((Boxed.new (w.alloc (.cells #[(.func (.func 24) #[] #[.pointer (some ⟨nb, 0, none⟩)])] 43)) 61 (.slice none 0 0)).alloc (.cells #[.int .i64 0] 3)).alloc (.cells #[.pointer (some ⟨b, 0, none⟩)] 24)
    rw [World.size_alloc] at this
    exact this
  have d0 : Boxed V0 (w.heap.size + 2) 3 (.int .i64 0) := by
    rw [← hV0]
    have := (Boxed.new ((w.alloc (.cells #[(.func (.func 24) #[] #[.pointer (some ⟨nb, 0, none⟩)])] 43)).alloc (.cells #[.slice none 0 0] 61)) 3 (.int .i64 0)).alloc (.cells #[.pointer (some ⟨b, 0, none⟩)] 24)
    rw [World.size_alloc, World.size_alloc] at this
    exact this
  have p0 : Boxed V0 (w.heap.size + 3) 24 (.pointer (some ⟨b, 0, none⟩)) := by
    rw [← hV0]
    have := Boxed.new (((w.alloc (.cells #[(.func (.func 24) #[] #[.pointer (some ⟨nb, 0, none⟩)])] 43)).alloc (.cells #[.slice none 0 0] 61)).alloc (.cells #[.int .i64 0] 3)) 24 (.pointer (some ⟨b, 0, none⟩))
    rw [World.size_alloc, World.size_alloc, World.size_alloc] at this
    exact this
  have K0 : Keep p (.func (.func 24) #[] #[.pointer (some ⟨nb, 0, none⟩)]) w s.length [] V0 := ⟨⟨_, k0, World.ownsRow_nil _ _ _ _⟩, d0, y0, b0, (fun k ⟨x, x1, x2⟩ => by rw [k0.cell] at x1; cases x1; cases x2), by omega, Nat.zero_le _⟩
  have cI := inorder_any b (((w.alloc (.cells #[(.func (.func 24) #[] #[.pointer (some ⟨nb, 0, none⟩)])] 43)).alloc (.cells #[.slice none 0 0] 61)).alloc (.cells #[.int .i64 0] 3))
  have hH0 := hH.go b0
  refine callsIn_of_wp_marks Try.func23 rfl trivial ?_ rfl
  simp only [Try.ntmps23, List.size_toArray, List.length_cons, List.length_nil, Nat.reduceAdd, Nat.reduceSub, Array.replicate_succ, Array.replicate_zero, List.push_toArray, List.append_toArray, List.nil_append, List.cons_append]
  gi_wp2_with (refine ⟨trivial, ?_⟩; gi_at_call 42; refine (callsIn_wide.2 cI).mono ?_; rintro e w1 ⟨rfl, rfl⟩)
  try rw [hV0]
  clear cI hV0 y0 k0 d0 eq0
  simp only [show w.heap.size + 1 + 1 = w.heap.size + 2 from rfl, show w.heap.size + 2 + 1 = w.heap.size + 3 from rfl]
  have hb1 : ∀ W, Keep p (.func (.func 24) #[] #[.pointer (some ⟨nb, 0, none⟩)]) w s.length [] W → True := fun _ _ => trivial
  refine range_turns (α := It) rfl (by omega) (gf := 50) (lb := #[.pointer (some ⟨w.heap.size + 3, 0, none⟩)]) rfl trivial (enters_of Try.func50 (by kernel_rfl) rfl)
    (encs := fun x => #[.agg #[.int .i64 x.k, .int .i64 x.n, .int .i64 (x.t : Nat)]]) (fun _ => rfl) s.length (CmL (w.heap.size + 1)) (w.heap.size + 4) (by omega) (Keep p (.func (.func 24) #[] #[.pointer (some ⟨nb, 0, none⟩)]) w s.length) (fun _ _ => False) (fun xs => xs = s) (fun pre => True)
    (fun pre x bb V => ∃ q, bb = { tmps := #[.pointer (some ⟨b, 0, none⟩), (.func (.func 24) #[] #[.pointer (some ⟨nb, 0, none⟩)]), undef, .pointer (some ⟨w.heap.size, 0, none⟩), .int .i64 0, .pointer (some ⟨w.heap.size + 1, 0, none⟩), .pointer (some ⟨w.heap.size + 2, 0, none⟩), .pointer (some ⟨q, 0, none⟩), (.func (.func 24) #[] #[.pointer (some ⟨nb, 0, none⟩)]), .bool false, .pointer (some ⟨b, 0, none⟩), .func (.func 50) #[] #[.pointer (some ⟨w.heap.size + 3, 0, none⟩)], .agg #[.int .i64 x.k, .int .i64 x.n, .int .i64 (x.t : Nat)], undef, undef, undef, undef, undef, undef, undef, undef, undef, undef, undef, undef, undef, undef, undef], defers := [] } ∧ V.heap[q]? = some (.cells #[.int .i64 x.k, .int .i64 x.n, .int .i64 (x.t : Nat)] 65 (0, 0)) ∧ (w.heap.size + 4) ≤ q ∧ ¬ CmL (w.heap.size + 1) V q ∧ pre.length < s.length ∧ Keep p (.func (.func 24) #[] #[.pointer (some ⟨nb, 0, none⟩)]) w s.length pre V)
    (fun p V V' h q => h.btw q) (fun p V l o o' h hl ho hc => h.put o' hl ho hc) (fun _ _ _ _ _ h _ _ _ => h)
    ?c2 ?m2 ?it K0 ?assign ?body ?done (fun _ _ _ _ _ h _ => h.elim)
  case c2 =>
    intro V l o o' k hl ho h1 h2 hk
    exact cm_same (World.putObj_heap_other (by omega)) hk
  case m2 =>
    rintro pre x bb V l o o' ⟨q, rfl, hq, hNq, hcq, hlen, hg⟩ hl ho hc
    refine ⟨q, rfl, (World.putObj_heap_other (fun e => ?_)).trans hq, hNq, fun z => hcq (cm_same (World.putObj_heap_other (by omega)) z), hlen, hg.put o' hl ho hc⟩
    subst e
    rw [hq] at ho
    exact not_cells rfl hc (Option.some.inj ho)
  case it =>
    intro l J Jx W hW hJ hJI hY hJ0
    refine (inorder_in 8 l (w.heap.size + 3) b B v s c (CmL (w.heap.size + 1)) (w.heap.size + 4) J Jx W (by have := hW.size; omega) (by omega) hJ ?_ ?_ hY (hH0.go hW) (by omega) ((hW.cell (p := ⟨w.heap.size + 3, 0, none⟩) (by show w.heap.size + 3 < _; omega)).trans p0.cell) hJ0).mono ?_
    · intro V V' k q hk
      exact cm_same (q.block _ (by have := q.low; omega) (Or.inl (by omega))) hk
    · intro p V k hp hk
      exact ((hJI p V hp).foot hk).1
    · rintro e W' ⟨he, h1 | ⟨pre, h1, h2⟩⟩
      · exact ⟨he, Or.inl ⟨s, rfl, h1⟩⟩
      · exact ⟨he, Or.inr ⟨pre, trivial, h2⟩⟩
  case assign =>
    intro l pre x W K hi hlen hK
    have lo := hi.low
    have bA : Below W.heap.size W (W.alloc (.cells #[.int .i64 x.k, .int .i64 x.n, .int .i64 (x.t : Nat)] 65)) := (Below.refl _ _).alloc (Nat.le_refl _) _
    have cA : ∀ k, CmL (w.heap.size + 1) (W.alloc (.cells #[.int .i64 x.k, .int .i64 x.n, .int .i64 (x.t : Nat)] 65)) k → CmL (w.heap.size + 1) W k := fun k hk => cm_same (bA.block _ (by omega)) hk
    have K1 := others_of_below bA
    have K2 : Rnd (CmL (w.heap.size + 1)) (w.heap.size + 4) W (W.alloc (.cells #[.int .i64 x.k, .int .i64 x.n, .int .i64 (x.t : Nat)] 65)) := ⟨bA.size, fun k o hk _ _ _ => (bA.block k (lt_some hk)).trans hk, fun k hk => Or.inl (cA k hk)⟩
    have K3 := hi.btw (Btw.below bA lo)
    have K4 : ¬ CmL (w.heap.size + 1) (W.alloc (.cells #[.int .i64 x.k, .int .i64 x.n, .int .i64 (x.t : Nat)] 65)) W.heap.size := fun z => by have := (hi.foot (cA _ z)).1; omega
    gi_wp2
    exact hK _ _ K1 K2 ⟨W.heap.size, rfl, World.alloc_heap_new _ _, lo, K4, hlen, K3⟩
  case body =>
    rintro l pre x bb W ⟨q, rfl, hq, hNq, hcq, hlen, hg⟩
    have c0 : W.cell? ⟨q, 0, none⟩ = some (.int .i64 x.k) := by simp [World.cell?, hq]
    have c1 : W.cell? ⟨q, 1, none⟩ = some (.int .i64 x.n) := by simp [World.cell?, hq]
    have c2 : W.cell? ⟨q, 2, none⟩ = some (.int .i64 (x.t : Nat)) := by simp [World.cell?, hq]
    have c3 := hg.which.cell
    have cT := hf W hg.below x.k x.n
    have hlow := hg.low
    obtain ⟨xk, xk1, xk2⟩ := hg.kept
    obtain ⟨xa, xc, rfl, _⟩ := own_form xk2
    have hC : ∀ j, CmL (w.heap.size + 1) W j ↔ (Value.slice xa (stay p pre).length xc).ownBlock = some j := fun j => ⟨fun ⟨y, y1, y2⟩ => by rw [xk1.cell] at y1; cases y1; exact y2, fun z => ⟨_, xk1.cell, z⟩⟩
    have hwl := went_le p pre
    have hsl := stay_le p pre
    have hcl : ∀ k, CmL (w.heap.size + 1) W k → ∃ ob, W.heap[k]? = some ob ∧ ob.isCells = true := fun k hk => (hg.foot hk).2
    have hrw := hg.rows
    have hrk : (Value.slice xa (stay p pre).length xc).ownBlock ≠ some (w.heap.size + 1) := fun e => by have := hrw _ ((hC _).2 e); omega
    by_cases hp : p (x.k, x.n) = true
    · rw [hp] at cT
      have es := stay_yes (l := pre) (show p (vOf x) = true from hp)
      have ew := went_yes (l := pre) (show p (vOf x) = true from hp)
      gi_wp2_with (first | (refine ⟨trivial, ?_⟩; gi_at_call 24; refine (CallsIn.inRound l (callsIn_wide.2 cT)).mono ?_; rintro e W1 ⟨rfl, b1⟩; have d1 : Boxed W1 (w.heap.size + 2) 3 (.int .i64 (went p pre : Nat)) := (b1.block _ (by omega)).trans hg.gone; have d1c := d1.cell; have d1f := d1.frozen) | (refine ⟨fun hh => (by cases hh), ?_⟩; gi_at_call 24; refine (CallsIn.inRound l (callsIn_wide.2 cT)).mono ?_; rintro e W1 ⟨rfl, b1⟩; have d1 : Boxed W1 (w.heap.size + 2) 3 (.int .i64 (went p pre : Nat)) := (b1.block _ (by omega)).trans hg.gone; have d1c := d1.cell; have d1f := d1.frozen))
      obtain ⟨W2, hW2⟩ : ∃ W2, W1.setCell ⟨w.heap.size + 2, 0, none⟩ (.int .i64 ((went p pre : Int) + 1)) = W2 := ⟨_, rfl⟩
      have d2 : Boxed W2 (w.heap.size + 2) 3 (.int .i64 ((went p pre : Int) + 1)) := by rw [← hW2]; exact d1.set _
      have o2 : ∀ k, k ≠ w.heap.size + 2 → W2.heap[k]? = W1.heap[k]? := fun k hk => by rw [← hW2]; exact Below.heap_setCell _ _ _ k hk
      have z2 : W2.heap.size = W1.heap.size := by rw [← hW2]; simp [World.setCell]
      have q2 : W2.os = W1.os ∧ W2.tape = W1.tape ∧ W2.output = W1.output := by rw [← hW2]; exact ⟨rfl, rfl, rfl⟩
      try rw [hW2]
      have bl : ∀ k, k < W.heap.size → k ≠ w.heap.size + 2 → W2.heap[k]? = W.heap[k]? := fun k hk h2 => (o2 k h2).trans (b1.block k hk)
      have zz := b1.size
      have ck := bl (w.heap.size + 1) (by omega) (by omega)
      obtain ⟨k1, k2⟩ := keep_round (w := w) hlow hcl (by omega) ⟨_, xk1, rfl⟩ ⟨_, hg.gone, rfl⟩ (fun k hk _ h2 _ => bl k hk h2) (fun k hk => Or.inl (cm_same ck hk))
      refine ⟨k1, k2, ⟨?_, ?_, (bl _ (by omega) (by omega)).trans hg.which, ?_, fun k hk => hrw k (cm_same ck hk), by omega, by rw [List.length_append]; simp; omega⟩⟩
      · rw [es]
        exact ⟨_, ck.trans xk1, owns_same xk2 fun k hk => bl k (own_since xk2 k hk).2 (fun e => by have := hrw k ((hC k).2 hk); omega)⟩
      · rw [ew]
        have e : ((went p pre + 1 : Nat) : Int) = (went p pre : Int) + 1 := by omega
        rw [e]
        exact d2
      · exact ⟨q2.1.trans (b1.os.trans hg.below.os), q2.2.1.trans (b1.tape.trans hg.below.tape), q2.2.2.trans (b1.output.trans hg.below.output), by have := hg.below.size; omega, fun k hk => (bl k (by omega) (by omega)).trans (hg.below.block k hk)⟩
    · have hp' : p (x.k, x.n) = false := by simpa using hp
      rw [hp'] at cT
      have es := stay_no (l := pre) (show p (vOf x) = false from hp')
      have ew := went_no (l := pre) (show p (vOf x) = false from hp')
      have hql := lt_some hq
      gi_wp2
      refine ⟨trivial, ?_⟩
      refine (CallsIn.inRound l (callsIn_wide.2 cT)).mono ?_
      rintro e W1 ⟨rfl, b1⟩
      have k1 : Boxed W1 (w.heap.size + 1) 61 (.slice xa (stay p pre).length xc) := (b1.block _ (by omega)).trans xk1
      have k1c := k1.cell
      have e1 := (b1.block q hql).trans hq
      have e10 : W1.cell? ⟨q, 0, none⟩ = some (.int .i64 x.k) := by simp [World.cell?, e1]
      have e11 : W1.cell? ⟨q, 1, none⟩ = some (.int .i64 x.n) := by simp [World.cell?, e1]
      have e12 : W1.cell? ⟨q, 2, none⟩ = some (.int .i64 (x.t : Nat)) := by simp [World.cell?, e1]
      have r1 := owns_go xk2 b1
      gi_wp2_with (gi_at_builtin; refine wpListIn_pushI rfl (.tmp 19) (.tmp 21) rfl w.heap.size (.slice xa (stay p pre).length xc) (stay p pre) rfl (r1.alloc _) W1.heap.size x rfl (by simp) (by simp) (by simp) (by omega) (by have := b1.size; rw [World.size_alloc]; omega) ?_; intro v2 w2 o2 g2 z2; rw [show (stay p pre ++ [x]).length = (stay p pre).length + 1 by simp] at o2; obtain ⟨va2, vc2, rfl, _⟩ := own_form o2; have k2 : Boxed w2 (w.heap.size + 1) 61 (.slice xa (stay p pre).length xc) := (g2.block _ (by have := b1.size; rw [World.size_alloc]; omega) (fun e => hrk e.symm)).trans (k1.alloc _); have k2c := k2.cell; have k2f := k2.frozen)
      have bA : Below W1.heap.size W1 (W1.alloc (.cells #[.int .i64 x.k, .int .i64 x.n, .int .i64 (x.t : Nat)] 65)) := (Below.refl _ _).alloc (Nat.le_refl _) _
      obtain ⟨W3, hW3⟩ : ∃ W3, w2.setCell ⟨w.heap.size + 1, 0, none⟩ (.slice va2 ((stay p pre).length + 1) vc2) = W3 := ⟨_, rfl⟩
      have k3 : Boxed W3 (w.heap.size + 1) 61 (.slice va2 ((stay p pre).length + 1) vc2) := by rw [← hW3]; exact k2.set _
      have o3 : ∀ k, k ≠ w.heap.size + 1 → W3.heap[k]? = w2.heap[k]? := fun k hk => by rw [← hW3]; exact Below.heap_setCell _ _ _ k hk
      have z3 : W3.heap.size = w2.heap.size := by rw [← hW3]; simp [World.setCell]
      have q3 : W3.os = w2.os ∧ W3.tape = w2.tape ∧ W3.output = w2.output := by rw [← hW3]; exact ⟨rfl, rfl, rfl⟩
      try rw [hW3]
      have zz := b1.size
      have zA := bA.size
      have zg := g2.size
      have bl : ∀ k, k < W.heap.size → k ≠ w.heap.size + 1 → ¬ CmL (w.heap.size + 1) W k → W3.heap[k]? = W.heap[k]? := fun k hk h2 hc => (o3 k h2).trans ((g2.block k (by omega) (fun e => hc ((hC k).2 e.symm))).trans ((bA.block k (by omega)).trans (b1.block k hk)))
      have ap : (Value.slice va2 ((stay p pre).length + 1) vc2).ownBlock ≠ some (w.heap.size + 1) := fun e => by
        rcases z2 with z | z
        · exact hrk (by rw [← z]; exact e)
        · rw [z] at e; have := Option.some.inj e; omega
      have ft : ∀ k, CmL (w.heap.size + 1) W3 k → CmL (w.heap.size + 1) W k ∨ W.heap.size ≤ k := fun k ⟨y, y1, y2⟩ => by
        rw [k3.cell] at y1
        cases y1
        rcases z2 with z | z
        · exact Or.inl ((hC k).2 (by rw [← z]; exact y2))
        · rw [z] at y2; have := Option.some.inj y2; exact Or.inr (by omega)
      have rN : ∀ k, k < w.heap.size + 4 → ¬ CmL (w.heap.size + 1) W k := fun k hk z => by have := hrw k z; omega
      obtain ⟨k5, k6⟩ := keep_round (w := w) hlow hcl (by omega) ⟨_, xk1, rfl⟩ ⟨_, hg.gone, rfl⟩ (fun k hk h1 _ h3 => bl k hk h1 h3) ft
      refine ⟨k5, k6, ⟨?_, ?_, (bl _ (by omega) (by omega) (rN _ (by omega))).trans hg.which, ?_, fun k hk => ?_, by omega, by rw [List.length_append]; simp; omega⟩⟩
      · rw [es]
        refine ⟨_, k3, ?_⟩
        rw [show (stay p pre ++ [x]).length = (stay p pre).length + 1 by simp]
        exact owns_same o2 fun k hk => o3 k (fun e => ap (by rw [hk, e]))
      · rw [ew]
        exact (bl _ (by omega) (by omega) (rN _ (by omega))).trans hg.gone
      · exact ⟨q3.1.trans (g2.os.trans (bA.os.trans (b1.os.trans hg.below.os))), q3.2.1.trans (g2.tape.trans (bA.tape.trans (b1.tape.trans hg.below.tape))), q3.2.2.trans (g2.output.trans (bA.output.trans (b1.output.trans hg.below.output))), by have := hg.below.size; omega, fun k hk => (bl k (by omega) (by omega) (rN _ (by omega))).trans (hg.below.block k hk)⟩
      · rcases ft k hk with z | z
        · exact hrw k z
        · omega
  case done =>
    rintro D xs V hD hxs hg hKD
    rw [hxs] at hg
    clear hxs hf K0 hH0
    obtain ⟨xk, xk1, xk2⟩ := hg.kept
    obtain ⟨xa, xc, rfl, _⟩ := own_form xk2
    obtain ⟨l, hA, hh⟩ := hH
    have hAV := hA.go hg.below
    have g0 := hAV.items
    have g1 := hAV.froz 1
    have g2 := xk1.cell
    have g3 := hg.gone.cell
    have hlow := hg.low
    have hrow : ∀ k, (Value.slice xa (stay p s).length xc).ownBlock = some k → w.heap.size + 4 ≤ k := fun k hk => hg.rows k ⟨_, xk1.cell, hk⟩
    gi_wp2
    refine ⟨by simp, .inl ⟨_, _, rfl, run_takeDeferred (by exact (Below.heap_setCell _ _ _ D (by show D ≠ b; omega)).trans hKD), ?_⟩⟩
    refine ⟨_, results_tmp rfl _ _ _, rfl, .slice xa (stay p s).length xc, ?_, ?_⟩
    · have zb : ∀ k, k ≠ b → k ≠ D → ((V.setCell ⟨b, 1, none⟩ (.slice xa (stay p s).length xc)).putObj D (.deferred none)).heap[k]? = V.heap[k]? := fun k h1 h2 => (World.putObj_heap_other (fun e => h2 (by omega))).trans (Below.heap_setCell _ _ _ k h1)
      have eb : ((V.setCell ⟨b, 1, none⟩ (.slice xa (stay p s).length xc)).putObj D (.deferred none)).heap[b]? = (V.setCell ⟨b, 1, none⟩ (.slice xa (stay p s).length xc)).heap[b]? := World.putObj_heap_other (by omega)
      refine ⟨stay p s, ⟨?_, ?_, ?_, fun o => ?_, ?_, fun e => by have := hrow _ e; omega, hAV.low⟩, hh.sub List.filter_sublist⟩
      · exact (cell_same eb).trans ((World.cell?_setCell_other _ _ _ _ (by intro e; cases e)).trans hAV.less)
      · exact (cell_same eb).trans (World.cell?_setCell_same _ _ _ hAV.items)
      · exact (cell_same eb).trans ((World.cell?_setCell_other _ _ _ _ (by intro e; cases e)).trans hAV.puts)
      · exact (frozen_same eb).trans (by rw [World.frozen?_setCell]; exact hAV.froz o)
      · refine owns_same (owns_base (by have := hA.low; omega) xk2) fun k hk => zb k (by have := hrow k hk; omega) (fun e => ?_)
        obtain ⟨ob, o1, o2⟩ := row_at xk2 hk
        rw [e, hKD] at o1
        exact not_cells o2 rfl (Option.some.inj o1).symm
    · refine ⟨hg.below.os, hg.below.tape, hg.below.output, ?_, fun k hk hb _ => ?_, fun k hk => Or.inr (by have := hrow k hk; omega)⟩
      · have := (grownBy_putObj' (V.setCell ⟨b, 1, none⟩ (.slice xa (stay p s).length xc)) D (.deferred none)).size
        have z : (V.setCell ⟨b, 1, none⟩ (.slice xa (stay p s).length xc)).heap.size = V.heap.size := by simp [World.setCell]
        have := hg.below.size
        omega
      · exact (World.putObj_heap_other (by omega)).trans ((Below.heap_setCell _ _ _ k hb).trans (hg.below.block k hk))
end Go.Proofs.Ytpbmkflkggeggaa.Hp
