/-
  The chapter's own word on stacks and bins: the walk.
-/
import Derived.Test.YtabbdclpjghdbaaRgH
namespace Go.Proofs.Ytabbdclpjghdbaa.Grid
set_option linter.unusedVariables false
set_option linter.unusedSimpArgs false
open Go Go.RowKit Go.Shelf Go.Proofs
attribute [local go_sem] Oper.semAt_some

set_option maxRecDepth 100000 in
set_option maxHeartbeats 4000000 in
theorem binsR_any (F : Nat → Prop) (c : Conf) (vb vp vr vs : Value) (w : World) (hA : ConfAt F c vb vp vr vs w) (hF : ∀ b, F b → b < w.heap.size) (hm : c.blocked.length ≤ 9223372036854775807) (hmp : c.ports.length ≤ 9223372036854775807) (hmr : c.robots.length ≤ 9223372036854775807)
    (hms : c.stacks.length ≤ 3518437208880) (hbs : ∀ s ∈ c.stacks, s.2.length ≤ 17592186044416) (h8 : c.height ≤ 8) :
    Calls Try.prog 39 #[.agg #[.int .i64 c.W, .int .i64 c.H, .int .i64 c.height, vb, vp, vr, vs, .int .i64 c.unit, .int .i64 c.accel, .int .i64 c.speed, .int .i64 c.turn, .int .i64 c.hoist, .int .i64 c.queue, .int .i64 c.resend, .int .i64 c.budget, .bool c.back]] w fun e w' => ∃ r, e = .returned r ∧ r = .bool (decide (binsP c)) ∧ Below w.heap.size w w' := by
  obtain ⟨a, cap, hv, h0⟩ := hA.s.form
  subst hv
  obtain ⟨n, hn⟩ : ∃ n, c.stacks.length = n := ⟨_, rfl⟩
  have Hn : Hid (c.stacks.length = n) := hn
  have hL := hA.s
  have cSt := fun (x y : Int) u (b : Below w.heap.size w u) => stackedR_any F c vb vp vr (.slice a c.stacks.length cap) x y u (hA.go hF b) (fun g hg => Nat.lt_of_lt_of_le (hF g hg) b.size) hm hmp hmr
  rw [hn] at hms hL h0 cSt ⊢
  clear hn hA
  have hFw : ∀ wr, Below w.heap.size w wr → ListAt 3 stackEl F c.stacks (.slice a n cap) wr := fun wr b => hL.go heldStack hF b
  clear hL
  have HBS : Hid (∀ s ∈ c.stacks, s.2.length ≤ 17592186044416) := hbs
  clear hbs
  have B0 : Hid (Bn w c #[.int .i64 c.W, .int .i64 c.H, .int .i64 c.height, vb, vp, vr, .slice a n cap, .int .i64 c.unit, .int .i64 c.accel, .int .i64 c.speed, .int .i64 c.turn, .int .i64 c.hoist, .int .i64 c.queue, .int .i64 c.resend, .int .i64 c.budget, .bool c.back] (.slice none 0 0) 0 (w.alloc (.cells #[.int .i64 c.W, .int .i64 c.H, .int .i64 c.height, vb, vp, vr, .slice a n cap, .int .i64 c.unit, .int .i64 c.accel, .int .i64 c.speed, .int .i64 c.turn, .int .i64 c.hoist, .int .i64 c.queue, .int .i64 c.resend, .int .i64 c.budget, .bool c.back] 26))) := ⟨⟨below_new (Below.refl _ _) _, heap_alloc_new w _⟩, World.ownsRow_nil _ _ _ _, by simp [flatT], by omega, fun s hs => by simp at hs, by simp⟩
  generalize hR : decide (binsP c) = R
  have HR : Hid (decide (binsP c) = R) := hR
  clear hR
  go_enter Try.func39, Try.ntmps39
  go_wp2
  go_loopw [3, 4] (fun v i wr => ∃ k : Nat, k ≤ n ∧ i = .int .i64 k ∧ Hid (Bn w c #[.int .i64 c.W, .int .i64 c.H, .int .i64 c.height, vb, vp, vr, .slice a n cap, .int .i64 c.unit, .int .i64 c.accel, .int .i64 c.speed, .int .i64 c.turn, .int .i64 c.hoist, .int .i64 c.queue, .int .i64 c.resend, .int .i64 c.budget, .bool c.back] v k wr)) (fun _ i _ => n - (intOf i).toNat)
  case atStart => exact ⟨0, Nat.zero_le _, rfl, B0⟩
  case round =>
    obtain ⟨k, hk, rfl, HB⟩ := hrel
    clear B0
    have k6 : wr.cell? ⟨w.heap.size, 6, none⟩ = some (.slice a n cap) := cell_of HB.out.box.a 6
    have k2 : wr.cell? ⟨w.heap.size, 2, none⟩ = some (.int .i64 c.height) := cell_of HB.out.box.a 2
    by_cases hlt : k < n
    · have hlt' : k < c.stacks.length := by rw [Hn.out]; exact hlt
      have B := HB.out.box.below
      have eA := HB.out.box.a
      have HBk : Hid ((c.stacks[k]'hlt').2.length ≤ 17592186044416) := HBS.out _ (List.getElem_mem hlt')
      have HBad : Hid (¬ (stackedR c (c.stacks[k]'hlt').1 ∧ ((c.stacks[k]'hlt').2.length : Int) ≤ c.height) → R = false) := fun h => HR.out ▸ bins_bad hlt' h
      have HLong : Hid (256 < k → R = false) := fun h => HR.out ▸ bins_long hlt' h
      have HTw : Hid (∀ j (hj : j < k), (c.stacks[j]'(by omega)).1 = (c.stacks[k]'hlt').1 → R = false) := fun j hj h => HR.out ▸ bins_twice hlt' hj h
      have HNx : Hid (¬ 256 < k → stackedR c (c.stacks[k]'hlt').1 → ((c.stacks[k]'hlt').2.length : Int) ≤ c.height → (∀ j (hj : j < k), (c.stacks[j]'(by omega)).1 ≠ (c.stacks[k]'hlt').1) → ∀ {v' : Value} {W W' : World}, Bn w c #[.int .i64 c.W, .int .i64 c.H, .int .i64 c.height, vb, vp, vr, .slice a n cap, .int .i64 c.unit, .int .i64 c.accel, .int .i64 c.speed, .int .i64 c.turn, .int .i64 c.hoist, .int .i64 c.queue, .int .i64 c.resend, .int .i64 c.budget, .bool c.back] u3 k W →
          W'.ownsRow (w.heap.size + 1) 3 1 v' (flatT c k ++ (c.stacks[k]'hlt').2).length (rowL intL (flatT c k ++ (c.stacks[k]'hlt').2)) → W.grownBy W' u3.ownBlock → Bn w c #[.int .i64 c.W, .int .i64 c.H, .int .i64 c.height, vb, vp, vr, .slice a n cap, .int .i64 c.unit, .int .i64 c.accel, .int .i64 c.speed, .int .i64 c.turn, .int .i64 c.hoist, .int .i64 c.queue, .int .i64 c.resend, .int .i64 c.budget, .bool c.back] v' (k + 1) W') := fun h1 h2 h3 h4 _ _ _ hb ho hg => hb.next hlt' h8 h1 h2 h3 h4 ho hg
      obtain ⟨p, cs, cap', hv, hpF, hcs, hrd⟩ := (hFw wr B).item hlt'
      generalize c.stacks[k]'hlt' = qr at *
      obtain ⟨⟨x, y⟩, bs⟩ := qr
      obtain ⟨vb', hcs', hbs⟩ := hcs
      subst hcs'
      obtain ⟨rfl, rfl⟩ : a = some p ∧ cap = cap' := by injection hv with h1 h2 h3; exact ⟨h1, h3⟩
      obtain ⟨ba, bcap, hvb, hb0⟩ := hbs.form
      subst hvb
      clear hv
      simp only at hrd hbs hb0 HBk HBad HTw HNx
      have cS := cSt x y
      by_cases h256 : 256 < k
      · have HT : Hid (R = false) := HLong.out h256
        have h256' : (256 : Int) < (k : Int) := by omega
        go_wp2
        obtain ⟨IH, hIH⟩ : ∃ I : World → Prop, I = Below wr.heap.size wr := ⟨_, rfl⟩
        have kI : ∀ u, IH u → Below wr.heap.size wr u := fun u hu => by rw [hIH] at hu; exact hu
        have hS : IH wr.drew := by rw [hIH]; exact (Below.refl _ _).drew
        refine start_held (S := IH) 25 rfl (by kernel_rfl) (hS) ?_
        simp only [Array.replicate_succ, Array.replicate_zero, List.push_toArray, List.nil_append, List.cons_append]
        refine take_held 0 (by assumption) rfl (by kernel_rfl) (by kernel_rfl) (by kernel_rfl) (fun _ _ _ h => h) (by kernel_rfl) (v := ?v0) ?y0 ?r0
        case y0 => (intro u hu; go_simp; try rfl)
        simp only [Act.put, List.setIfInBounds_toArray, List.set_cons_zero, List.set_cons_succ]
        refine take_held 1 (by assumption) rfl (by kernel_rfl) (by kernel_rfl) (by kernel_rfl) (fun _ _ _ h => h) (by kernel_rfl) (v := .bool true) ?y1 ?r1
        case y1 => (intro u hu; go_simp; try simp [h256'])
        simp only [Act.put, List.setIfInBounds_toArray, List.set_cons_zero, List.set_cons_succ]
        refine take_held 2 (by assumption) rfl (by kernel_rfl) (by kernel_rfl) (by kernel_rfl) (fun _ _ _ h => h) (by kernel_rfl) (v := ?v2) ?y2 ?r2
        case y2 => (intro u hu; go_simp; try rfl)
        simp only [Act.put, List.setIfInBounds_toArray, List.set_cons_zero, List.set_cons_succ]
        refine skip_held 3 (by assumption) rfl (by kernel_rfl) (by kernel_rfl) (by kernel_rfl) (fun _ _ _ h => h) (by kernel_rfl) ?_
        simp only [Act.put, List.setIfInBounds_toArray, List.set_cons_zero, List.set_cons_succ]
        refine skip_held 4 (by assumption) rfl (by kernel_rfl) (by kernel_rfl) (by kernel_rfl) (fun _ _ _ h => h) (by kernel_rfl) ?_
        simp only [Act.put, List.setIfInBounds_toArray, List.set_cons_zero, List.set_cons_succ]
        refine skip_held 5 (by assumption) rfl (by kernel_rfl) (by kernel_rfl) (by kernel_rfl) (fun _ _ _ h => h) (by kernel_rfl) ?_
        simp only [Act.put, List.setIfInBounds_toArray, List.set_cons_zero, List.set_cons_succ]
        refine skip_held 6 (by assumption) rfl (by kernel_rfl) (by kernel_rfl) (by kernel_rfl) (fun _ _ _ h => h) (by kernel_rfl) ?_
        simp only [Act.put, List.setIfInBounds_toArray, List.set_cons_zero, List.set_cons_succ]
        refine skip_held 7 (by assumption) rfl (by kernel_rfl) (by kernel_rfl) (by kernel_rfl) (fun _ _ _ h => h) (by kernel_rfl) ?_
        simp only [Act.put, List.setIfInBounds_toArray, List.set_cons_zero, List.set_cons_succ]
        refine skip_held 8 (by assumption) rfl (by kernel_rfl) (by kernel_rfl) (by kernel_rfl) (fun _ _ _ h => h) (by kernel_rfl) ?_
        simp only [Act.put, List.setIfInBounds_toArray, List.set_cons_zero, List.set_cons_succ]
        refine skip_held 9 (by assumption) rfl (by kernel_rfl) (by kernel_rfl) (by kernel_rfl) (fun _ _ _ h => h) (by kernel_rfl) ?_
        simp only [Act.put, List.setIfInBounds_toArray, List.set_cons_zero, List.set_cons_succ]
        refine skip_held 10 (by assumption) rfl (by kernel_rfl) (by kernel_rfl) (by kernel_rfl) (fun _ _ _ h => h) (by kernel_rfl) ?_
        simp only [Act.put, List.setIfInBounds_toArray, List.set_cons_zero, List.set_cons_succ]
        refine skip_held 11 (by assumption) rfl (by kernel_rfl) (by kernel_rfl) (by kernel_rfl) (fun _ _ _ h => h) (by kernel_rfl) ?_
        simp only [Act.put, List.setIfInBounds_toArray, List.set_cons_zero, List.set_cons_succ]
        refine take_held 12 (by assumption) rfl (by kernel_rfl) (by kernel_rfl) (by kernel_rfl) (fun _ _ _ h => h) (by kernel_rfl) (v := ?v3) ?y3 ?r3
        case y3 => (intro u hu; go_simp; try rfl)
        simp only [Act.put, List.setIfInBounds_toArray, List.set_cons_zero, List.set_cons_succ]
        refine take_held 13 (by assumption) rfl (by kernel_rfl) (by kernel_rfl) (by kernel_rfl) (fun _ _ _ h => h) (by kernel_rfl) (v := ?v4) ?y4 ?r4
        case y4 => (intro u hu; go_simp; try rfl)
        simp only [Act.put, List.setIfInBounds_toArray, List.set_cons_zero, List.set_cons_succ]
        refine skip_held 14 (by assumption) rfl (by kernel_rfl) (by kernel_rfl) (by kernel_rfl) (fun _ _ _ h => h) (by kernel_rfl) ?_
        simp only [Act.put, List.setIfInBounds_toArray, List.set_cons_zero, List.set_cons_succ]
        refine skip_held 15 (by assumption) rfl (by kernel_rfl) (by kernel_rfl) (by kernel_rfl) (fun _ _ _ h => h) (by kernel_rfl) ?_
        simp only [Act.put, List.setIfInBounds_toArray, List.set_cons_zero, List.set_cons_succ]
        refine skip_held 16 (by assumption) rfl (by kernel_rfl) (by kernel_rfl) (by kernel_rfl) (fun _ _ _ h => h) (by kernel_rfl) ?_
        simp only [Act.put, List.setIfInBounds_toArray, List.set_cons_zero, List.set_cons_succ]
        refine skip_held 17 (by assumption) rfl (by kernel_rfl) (by kernel_rfl) (by kernel_rfl) (fun _ _ _ h => h) (by kernel_rfl) ?_
        simp only [Act.put, List.setIfInBounds_toArray, List.set_cons_zero, List.set_cons_succ]
        refine skip_held 18 (by assumption) rfl (by kernel_rfl) (by kernel_rfl) (by kernel_rfl) (fun _ _ _ h => h) (by kernel_rfl) ?_
        simp only [Act.put, List.setIfInBounds_toArray, List.set_cons_zero, List.set_cons_succ]
        refine skip_held 19 (by assumption) rfl (by kernel_rfl) (by kernel_rfl) (by kernel_rfl) (fun _ _ _ h => h) (by kernel_rfl) ?_
        simp only [Act.put, List.setIfInBounds_toArray, List.set_cons_zero, List.set_cons_succ]
        refine skip_held 20 (by assumption) rfl (by kernel_rfl) (by kernel_rfl) (by kernel_rfl) (fun _ _ _ h => h) (by kernel_rfl) ?_
        simp only [Act.put, List.setIfInBounds_toArray, List.set_cons_zero, List.set_cons_succ]
        refine skip_held 21 (by assumption) rfl (by kernel_rfl) (by kernel_rfl) (by kernel_rfl) (fun _ _ _ h => h) (by kernel_rfl) ?_
        simp only [Act.put, List.setIfInBounds_toArray, List.set_cons_zero, List.set_cons_succ]
        refine skip_held 22 (by assumption) rfl (by kernel_rfl) (by kernel_rfl) (by kernel_rfl) (fun _ _ _ h => h) (by kernel_rfl) ?_
        simp only [Act.put, List.setIfInBounds_toArray, List.set_cons_zero, List.set_cons_succ]
        refine skip_held 23 (by assumption) rfl (by kernel_rfl) (by kernel_rfl) (by kernel_rfl) (fun _ _ _ h => h) (by kernel_rfl) ?_
        simp only [Act.put, List.setIfInBounds_toArray, List.set_cons_zero, List.set_cons_succ]
        refine take_held 24 (by assumption) rfl (by kernel_rfl) (by kernel_rfl) (by kernel_rfl) (fun _ _ _ h => h) (by kernel_rfl) (v := ?v5) ?y5 ?r5
        case y5 => (intro u hu; go_simp; try rfl)
        simp only [Act.put, List.setIfInBounds_toArray, List.set_cons_zero, List.set_cons_succ]
        refine done_held (by kernel_rfl) ?_ _
        go_wp2
        go_ret
        exact ⟨_, rfl, congrArg Value.bool HT.out.symm, bcat B (Below.refl _ _).drew (Nat.le_refl _)⟩
      · have h256' : ¬ (256 : Int) < (k : Int) := by omega
        go_wp2
        obtain ⟨IH, hIH⟩ : ∃ I : World → Prop, I = Below wr.heap.size wr := ⟨_, rfl⟩
        have kI : ∀ u, IH u → Below wr.heap.size wr u := fun u hu => by rw [hIH] at hu; exact hu
        have hS : IH wr.drew := by rw [hIH]; exact (Below.refl _ _).drew
        have HCF : Hid (∀ u, IH u → ∀ j z, #[.int .i64 c.W, .int .i64 c.H, .int .i64 c.height, vb, vp, vr, .slice (some p) n cap, .int .i64 c.unit, .int .i64 c.accel, .int .i64 c.speed, .int .i64 c.turn, .int .i64 c.hoist, .int .i64 c.queue, .int .i64 c.resend, .int .i64 c.budget, .bool c.back][j]? = some z → u.cell? ((⟨w.heap.size, 0, none⟩ : Addr).add j) = some z) := fun u hu => row_below eA (kI u hu)
        have z6 : ∀ u, IH u → u.cell? ⟨w.heap.size, 6, none⟩ = some (.slice (some p) n cap) := fun u hu => cell_below k6 (kI u hu)
        have zh : ∀ u, IH u → u.cell? ⟨w.heap.size, 2, none⟩ = some (.int .i64 c.height) := fun u hu => cell_below k2 (kI u hu)
        have H1 : Hid (∀ u, IH u → ∀ j z, #[Value.int .i64 x, .int .i64 y][j]? = some z → u.cell? ((p.add (k * 3)).add j) = some z) := fun u hu j z hj => cell_below (hrd j z (by
          match j with
          | 0 => simpa using hj
          | 1 => simpa using hj
          | j + 2 => simp at hj)) (kI u hu)
        have z2 : ∀ u, IH u → u.cell? ⟨(p.add (k * 3)).block, (p.add (k * 3)).off + 2, none⟩ = some (.slice ba bs.length bcap) := fun u hu => cell_below (hrd 2 _ rfl) (kI u hu)
        obtain ⟨sb, hsb⟩ : ∃ sb, decide (stackedR c (x, y)) = sb := ⟨_, rfl⟩
        have HSB : Hid (decide (stackedR c (x, y)) = sb) := hsb
        rw [hsb] at cS
        clear hsb hrd
        refine start_held (S := IH) 25 rfl (by kernel_rfl) (hS) ?_
        simp only [Array.replicate_succ, Array.replicate_zero, List.push_toArray, List.nil_append, List.cons_append]
        refine take_held 0 (by assumption) rfl (by kernel_rfl) (by kernel_rfl) (by kernel_rfl) (fun _ _ _ h => h) (by kernel_rfl) (v := ?v6) ?y6 ?r6
        case y6 => (intro u hu; go_simp; try rfl)
        simp only [Act.put, List.setIfInBounds_toArray, List.set_cons_zero, List.set_cons_succ]
        refine take_held 1 (by assumption) rfl (by kernel_rfl) (by kernel_rfl) (by kernel_rfl) (fun _ _ _ h => h) (by kernel_rfl) (v := .bool false) ?y7 ?r7
        case y7 => (intro u hu; go_simp; try simp [h256']; try omega)
        simp only [Act.put, List.setIfInBounds_toArray, List.set_cons_zero, List.set_cons_succ]
        refine take_held 2 (by assumption) rfl (by kernel_rfl) (by kernel_rfl) (by kernel_rfl) (fun _ _ _ h => h) (by kernel_rfl) (v := ?v8) ?y8 ?r8
        case y8 => (intro u hu; go_simp; try rfl)
        simp only [Act.put, List.setIfInBounds_toArray, List.set_cons_zero, List.set_cons_succ]
        refine take_held 3 (by assumption) rfl (by kernel_rfl) (by kernel_rfl) (by kernel_rfl) (fun _ _ _ h => h) (by kernel_rfl) (v := .agg #[.int .i64 c.W, .int .i64 c.H, .int .i64 c.height, vb, vp, vr, .slice (some p) n cap, .int .i64 c.unit, .int .i64 c.accel, .int .i64 c.speed, .int .i64 c.turn, .int .i64 c.hoist, .int .i64 c.queue, .int .i64 c.resend, .int .i64 c.budget, .bool c.back]) ?y9 ?r9
        case y9 => (intro u hu; exact run_load_op 26 _ rfl ⟨w.heap.size, 0, none⟩ _ rfl (HCF.out u hu) (aggConf u) info_conf)
        simp only [Act.put, List.setIfInBounds_toArray, List.set_cons_zero, List.set_cons_succ]
        refine take_held 4 (by assumption) rfl (by kernel_rfl) (by kernel_rfl) (by kernel_rfl) (fun _ _ _ h => h) (by kernel_rfl) (v := ?v10) ?y10 ?r10
        case y10 => (intro u hu; go_simp; try rfl)
        simp only [Act.put, List.setIfInBounds_toArray, List.set_cons_zero, List.set_cons_succ]
        refine take_held 5 (by assumption) rfl (by kernel_rfl) (by kernel_rfl) (by kernel_rfl) (fun _ _ _ h => h) (by kernel_rfl) (v := ?v11) ?y11 ?r11
        case y11 => (intro u hu; have zz0 := z6 u hu; go_simp; try rfl)
        simp only [Act.put, List.setIfInBounds_toArray, List.set_cons_zero, List.set_cons_succ]
        refine take_held 6 (by assumption) rfl (by kernel_rfl) (by kernel_rfl) (by kernel_rfl) (fun _ _ _ h => h) (by kernel_rfl) (v := ?v12) ?y12 ?r12
        case y12 => (intro u hu; go_simp; try rfl)
        simp only [Act.put, List.setIfInBounds_toArray, List.set_cons_zero, List.set_cons_succ]
        refine take_held 7 (by assumption) rfl (by kernel_rfl) (by kernel_rfl) (by kernel_rfl) (fun _ _ _ h => h) (by kernel_rfl) (v := ?v13) ?y13 ?r13
        case y13 => (intro u hu; go_simp; try rfl)
        simp only [Act.put, List.setIfInBounds_toArray, List.set_cons_zero, List.set_cons_succ]
        refine take_held 8 (by assumption) rfl (by kernel_rfl) (by kernel_rfl) (by kernel_rfl) (fun _ _ _ h => h) (by kernel_rfl) (v := ?v14) ?y14 ?r14
        case y14 => (intro u hu; go_simp; try rfl)
        simp only [Act.put, List.setIfInBounds_toArray, List.set_cons_zero, List.set_cons_succ]
        refine take_held 9 (by assumption) rfl (by kernel_rfl) (by kernel_rfl) (by kernel_rfl) (fun _ _ _ h => h) (by kernel_rfl) (v := .agg #[.int .i64 x, .int .i64 y]) ?y15 ?r15
        case y15 => (intro u hu; exact run_load_op 39 _ rfl (p.add (k * 3)) _ rfl (H1.out u hu) (aggCell u) infoCell2)
        simp only [Act.put, List.setIfInBounds_toArray, List.set_cons_zero, List.set_cons_succ]
        refine wpAnyH_ready (rs := [10]) (by kernel_rfl) (by simp) (AllReadyH.cons ((nth_eq _ 10).trans rfl) ?_ AllReadyH.nil)
        intro K' hK
        refine call_in hK (by kernel_rfl) 62 #[.agg #[.int .i64 c.W, .int .i64 c.H, .int .i64 c.height, vb, vp, vr, .slice (some p) n cap, .int .i64 c.unit, .int .i64 c.accel, .int .i64 c.speed, .int .i64 c.turn, .int .i64 c.hoist, .int .i64 c.queue, .int .i64 c.resend, .int .i64 c.budget, .bool c.back], .agg #[.int .i64 x, .int .i64 y]] (by go_simp) _ (cS _ (bcat B (Below.refl _ _).drew (Nat.le_refl _))) ?_
        rintro v w6 ⟨rfl, b6⟩
        have D6 := bcat (Below.refl wr.heap.size wr).drew b6 (Nat.le_refl _)
        have B6 := bcat B D6 (Nat.le_refl _)
        have hS6 : IH w6 := by rw [hIH]; exact D6
        refine ⟨hS6, ?_⟩
        simp only [Act.put, List.setIfInBounds_toArray, List.set_cons_zero, List.set_cons_succ]
        refine take_held 11 (by assumption) rfl (by kernel_rfl) (by kernel_rfl) (by kernel_rfl) (fun _ _ _ h => h) (by kernel_rfl) (v := ?v16) ?y16 ?r16
        case y16 => (intro u hu; go_simp; try rfl)
        simp only [Act.put, List.setIfInBounds_toArray, List.set_cons_zero, List.set_cons_succ]
        refine take_held 12 (by assumption) rfl (by kernel_rfl) (by kernel_rfl) (by kernel_rfl) (fun _ _ _ h => h) (by kernel_rfl) (v := ?v17) ?y17 ?r17
        case y17 => (intro u hu; go_simp; try rfl)
        simp only [Act.put, List.setIfInBounds_toArray, List.set_cons_zero, List.set_cons_succ]
        refine take_held 13 (by assumption) rfl (by kernel_rfl) (by kernel_rfl) (by kernel_rfl) (fun _ _ _ h => h) (by kernel_rfl) (v := ?v18) ?y18 ?r18
        case y18 => (intro u hu; go_simp; try rfl)
        simp only [Act.put, List.setIfInBounds_toArray, List.set_cons_zero, List.set_cons_succ]
        cases sb
        · have HT : Hid (R = false) := HBad.out (fun h => of_decide_eq_false HSB.out h.1)
          refine skip_held 14 (by assumption) rfl (by kernel_rfl) (by kernel_rfl) (by kernel_rfl) (fun _ _ _ h => h) (by kernel_rfl) ?_
          simp only [Act.put, List.setIfInBounds_toArray, List.set_cons_zero, List.set_cons_succ]
          refine skip_held 15 (by assumption) rfl (by kernel_rfl) (by kernel_rfl) (by kernel_rfl) (fun _ _ _ h => h) (by kernel_rfl) ?_
          simp only [Act.put, List.setIfInBounds_toArray, List.set_cons_zero, List.set_cons_succ]
          refine skip_held 16 (by assumption) rfl (by kernel_rfl) (by kernel_rfl) (by kernel_rfl) (fun _ _ _ h => h) (by kernel_rfl) ?_
          simp only [Act.put, List.setIfInBounds_toArray, List.set_cons_zero, List.set_cons_succ]
          refine skip_held 17 (by assumption) rfl (by kernel_rfl) (by kernel_rfl) (by kernel_rfl) (fun _ _ _ h => h) (by kernel_rfl) ?_
          simp only [Act.put, List.setIfInBounds_toArray, List.set_cons_zero, List.set_cons_succ]
          refine skip_held 18 (by assumption) rfl (by kernel_rfl) (by kernel_rfl) (by kernel_rfl) (fun _ _ _ h => h) (by kernel_rfl) ?_
          simp only [Act.put, List.setIfInBounds_toArray, List.set_cons_zero, List.set_cons_succ]
          refine skip_held 19 (by assumption) rfl (by kernel_rfl) (by kernel_rfl) (by kernel_rfl) (fun _ _ _ h => h) (by kernel_rfl) ?_
          simp only [Act.put, List.setIfInBounds_toArray, List.set_cons_zero, List.set_cons_succ]
          refine skip_held 20 (by assumption) rfl (by kernel_rfl) (by kernel_rfl) (by kernel_rfl) (fun _ _ _ h => h) (by kernel_rfl) ?_
          simp only [Act.put, List.setIfInBounds_toArray, List.set_cons_zero, List.set_cons_succ]
          refine skip_held 21 (by assumption) rfl (by kernel_rfl) (by kernel_rfl) (by kernel_rfl) (fun _ _ _ h => h) (by kernel_rfl) ?_
          simp only [Act.put, List.setIfInBounds_toArray, List.set_cons_zero, List.set_cons_succ]
          refine skip_held 22 (by assumption) rfl (by kernel_rfl) (by kernel_rfl) (by kernel_rfl) (fun _ _ _ h => h) (by kernel_rfl) ?_
          simp only [Act.put, List.setIfInBounds_toArray, List.set_cons_zero, List.set_cons_succ]
          refine skip_held 23 (by assumption) rfl (by kernel_rfl) (by kernel_rfl) (by kernel_rfl) (fun _ _ _ h => h) (by kernel_rfl) ?_
          simp only [Act.put, List.setIfInBounds_toArray, List.set_cons_zero, List.set_cons_succ]
          refine take_held 24 (by assumption) rfl (by kernel_rfl) (by kernel_rfl) (by kernel_rfl) (fun _ _ _ h => h) (by kernel_rfl) (v := ?v19) ?y19 ?r19
          case y19 => (intro u hu; go_simp; try rfl)
          simp only [Act.put, List.setIfInBounds_toArray, List.set_cons_zero, List.set_cons_succ]
          refine done_held (by kernel_rfl) ?_ _
          go_wp2
          go_ret
          exact ⟨_, rfl, congrArg Value.bool HT.out.symm, B6⟩
        · by_cases hbl : (bs.length : Int) ≤ c.height
          · have hbl2 : ¬ c.height < (bs.length : Int) := by omega
            refine take_held 14 (by assumption) rfl (by kernel_rfl) (by kernel_rfl) (by kernel_rfl) (fun _ _ _ h => h) (by kernel_rfl) (v := ?v20) ?y20 ?r20
            case y20 => (intro u hu; go_simp; try rfl)
            simp only [Act.put, List.setIfInBounds_toArray, List.set_cons_zero, List.set_cons_succ]
            refine take_held 15 (by assumption) rfl (by kernel_rfl) (by kernel_rfl) (by kernel_rfl) (fun _ _ _ h => h) (by kernel_rfl) (v := ?v21) ?y21 ?r21
            case y21 => (intro u hu; have zz0 := z6 u hu; go_simp; try rfl)
            simp only [Act.put, List.setIfInBounds_toArray, List.set_cons_zero, List.set_cons_succ]
            refine take_held 16 (by assumption) rfl (by kernel_rfl) (by kernel_rfl) (by kernel_rfl) (fun _ _ _ h => h) (by kernel_rfl) (v := ?v22) ?y22 ?r22
            case y22 => (intro u hu; go_simp; try rfl)
            simp only [Act.put, List.setIfInBounds_toArray, List.set_cons_zero, List.set_cons_succ]
            refine take_held 17 (by assumption) rfl (by kernel_rfl) (by kernel_rfl) (by kernel_rfl) (fun _ _ _ h => h) (by kernel_rfl) (v := ?v23) ?y23 ?r23
            case y23 => (intro u hu; go_simp; try rfl)
            simp only [Act.put, List.setIfInBounds_toArray, List.set_cons_zero, List.set_cons_succ]
            refine take_held 18 (by assumption) rfl (by kernel_rfl) (by kernel_rfl) (by kernel_rfl) (fun _ _ _ h => h) (by kernel_rfl) (v := ?v24) ?y24 ?r24
            case y24 => (intro u hu; go_simp; try rfl)
            simp only [Act.put, List.setIfInBounds_toArray, List.set_cons_zero, List.set_cons_succ]
            refine take_held 19 (by assumption) rfl (by kernel_rfl) (by kernel_rfl) (by kernel_rfl) (fun _ _ _ h => h) (by kernel_rfl) (v := ?v25) ?y25 ?r25
            case y25 => (intro u hu; have zz0 := z2 u hu; go_simp; try rfl)
            simp only [Act.put, List.setIfInBounds_toArray, List.set_cons_zero, List.set_cons_succ]
            refine take_held 20 (by assumption) rfl (by kernel_rfl) (by kernel_rfl) (by kernel_rfl) (fun _ _ _ h => h) (by kernel_rfl) (v := ?v26) ?y26 ?r26
            case y26 => (intro u hu; go_simp; try rfl)
            simp only [Act.put, List.setIfInBounds_toArray, List.set_cons_zero, List.set_cons_succ]
            refine take_held 21 (by assumption) rfl (by kernel_rfl) (by kernel_rfl) (by kernel_rfl) (fun _ _ _ h => h) (by kernel_rfl) (v := ?v27) ?y27 ?r27
            case y27 => (intro u hu; go_simp; try rfl)
            simp only [Act.put, List.setIfInBounds_toArray, List.set_cons_zero, List.set_cons_succ]
            refine take_held 22 (by assumption) rfl (by kernel_rfl) (by kernel_rfl) (by kernel_rfl) (fun _ _ _ h => h) (by kernel_rfl) (v := ?v28) ?y28 ?r28
            case y28 => (intro u hu; have zz0 := zh u hu; go_simp; try rfl)
            simp only [Act.put, List.setIfInBounds_toArray, List.set_cons_zero, List.set_cons_succ]
            refine take_held 23 (by assumption) rfl (by kernel_rfl) (by kernel_rfl) (by kernel_rfl) (fun _ _ _ h => h) (by kernel_rfl) (v := .bool false) ?y29 ?r29
            case y29 => (intro u hu; go_simp; try simp [hbl2]; try omega)
            simp only [Act.put, List.setIfInBounds_toArray, List.set_cons_zero, List.set_cons_succ]
            refine take_held 24 (by assumption) rfl (by kernel_rfl) (by kernel_rfl) (by kernel_rfl) (fun _ _ _ h => h) (by kernel_rfl) (v := ?v30) ?y30 ?r30
            case y30 => (intro u hu; go_simp; try rfl)
            simp only [Act.put, List.setIfInBounds_toArray, List.set_cons_zero, List.set_cons_succ]
            refine done_held (by kernel_rfl) ?_ _
            have HI6 : Hid (IH w6) := hS6
            have hbu : ∀ u, IH u → ListAt 1 intEl F bs (.slice ba bs.length bcap) u := fun u hu => hbs.stable heldInt fun g hg => (kI u hu).block g (Nat.lt_of_lt_of_le (hF g hg) B.size)
            go_wp2
            go_loopw [5] (fun i wq => ∃ j : Nat, j ≤ k ∧ i = .int .i64 j ∧ Hid (IH wq) ∧ Hid (∀ i (hi : i < j) (h' : i < c.stacks.length), (c.stacks[i]'h').1 ≠ (x, y))) (fun i _ => k - (intOf i).toNat)
            case atStart => exact ⟨0, Nat.zero_le _, rfl, HI6, fun i hi => by omega⟩
            case round =>
              obtain ⟨j, hj, rfl, HI, HD⟩ := hrel
              have y6 := z6 _ HI.out
              by_cases hjk : j < k
              · have hj' : j < c.stacks.length := by rw [Hn.out]; omega
                have hjn : j < n := by omega
                have HTj : Hid ((c.stacks[j]'hj').1 = (x, y) → R = false) := fun h => HTw.out j hjk h
                have HDj : Hid ((c.stacks[j]'hj').1 ≠ (x, y) → ∀ i (hi : i < j + 1) (h' : i < c.stacks.length), (c.stacks[i]'h').1 ≠ (x, y)) := fun h i hi h' => by
                  by_cases q : i < j
                  · exact HD.out i q h'
                  · obtain rfl : i = j := by omega
                    exact h
                obtain ⟨p2, cs2, cap2, hv2, _, hcs2, hrd2⟩ := (hFw _ B).item hj'
                generalize c.stacks[j]'hj' = qj at *
                obtain ⟨⟨q, r⟩, bq⟩ := qj
                obtain ⟨vb2, hcs2', _⟩ := hcs2
                subst hcs2'
                obtain ⟨rfl, rfl⟩ : p = p2 ∧ cap = cap2 := by injection hv2 with h1 h2 h3; injection h1 with h1; exact ⟨h1, h3⟩
                clear hv2
                simp only at hrd2 HTj HDj
                have HJ : Hid (∀ u, IH u → ∀ jj z, #[Value.int .i64 q, .int .i64 r][jj]? = some z → u.cell? ((p.add (j * 3)).add jj) = some z) := fun u hu jj z hz => cell_below (hrd2 jj z (by
                  match jj with
                  | 0 => simpa using hz
                  | 1 => simpa using hz
                  | jj + 2 => simp at hz)) (kI u hu)
                clear hrd2
                go_wp2
                have hS9 : IH wr.drew := by
                  have := HI.out
                  rw [hIH] at this ⊢
                  exact bcat this (Below.refl _ _).drew (Nat.le_refl _)
                refine start_held (S := IH) 13 rfl (by kernel_rfl) (hS9) ?_
                simp only [Array.replicate_succ, Array.replicate_zero, List.push_toArray, List.nil_append, List.cons_append]
                refine take_held 0 (by assumption) rfl (by kernel_rfl) (by kernel_rfl) (by kernel_rfl) (fun _ _ _ h => h) (by kernel_rfl) (v := ?v31) ?y31 ?r31
                case y31 => (intro u hu; go_simp; try rfl)
                simp only [Act.put, List.setIfInBounds_toArray, List.set_cons_zero, List.set_cons_succ]
                refine take_held 1 (by assumption) rfl (by kernel_rfl) (by kernel_rfl) (by kernel_rfl) (fun _ _ _ h => h) (by kernel_rfl) (v := ?v32) ?y32 ?r32
                case y32 => (intro u hu; have zz0 := z6 u hu; go_simp; try rfl)
                simp only [Act.put, List.setIfInBounds_toArray, List.set_cons_zero, List.set_cons_succ]
                refine take_held 2 (by assumption) rfl (by kernel_rfl) (by kernel_rfl) (by kernel_rfl) (fun _ _ _ h => h) (by kernel_rfl) (v := ?v33) ?y33 ?r33
                case y33 => (intro u hu; go_simp; try rfl)
                simp only [Act.put, List.setIfInBounds_toArray, List.set_cons_zero, List.set_cons_succ]
                refine take_held 3 (by assumption) rfl (by kernel_rfl) (by kernel_rfl) (by kernel_rfl) (fun _ _ _ h => h) (by kernel_rfl) (v := ?v34) ?y34 ?r34
                case y34 => (intro u hu; go_simp; try rfl)
                simp only [Act.put, List.setIfInBounds_toArray, List.set_cons_zero, List.set_cons_succ]
                refine take_held 4 (by assumption) rfl (by kernel_rfl) (by kernel_rfl) (by kernel_rfl) (fun _ _ _ h => h) (by kernel_rfl) (v := ?v35) ?y35 ?r35
                case y35 => (intro u hu; go_simp; try rfl)
                simp only [Act.put, List.setIfInBounds_toArray, List.set_cons_zero, List.set_cons_succ]
                refine take_held 5 (by assumption) rfl (by kernel_rfl) (by kernel_rfl) (by kernel_rfl) (fun _ _ _ h => h) (by kernel_rfl) (v := .agg #[.int .i64 q, .int .i64 r]) ?y36 ?r36
                case y36 => (intro u hu; exact run_load_op 39 _ rfl (p.add (j * 3)) _ rfl (HJ.out u hu) (aggCell u) infoCell2)
                simp only [Act.put, List.setIfInBounds_toArray, List.set_cons_zero, List.set_cons_succ]
                refine take_held 6 (by assumption) rfl (by kernel_rfl) (by kernel_rfl) (by kernel_rfl) (fun _ _ _ h => h) (by kernel_rfl) (v := ?v37) ?y37 ?r37
                case y37 => (intro u hu; go_simp; try rfl)
                simp only [Act.put, List.setIfInBounds_toArray, List.set_cons_zero, List.set_cons_succ]
                refine take_held 7 (by assumption) rfl (by kernel_rfl) (by kernel_rfl) (by kernel_rfl) (fun _ _ _ h => h) (by kernel_rfl) (v := ?v38) ?y38 ?r38
                case y38 => (intro u hu; have zz0 := z6 u hu; go_simp; try rfl)
                simp only [Act.put, List.setIfInBounds_toArray, List.set_cons_zero, List.set_cons_succ]
                refine take_held 8 (by assumption) rfl (by kernel_rfl) (by kernel_rfl) (by kernel_rfl) (fun _ _ _ h => h) (by kernel_rfl) (v := ?v39) ?y39 ?r39
                case y39 => (intro u hu; go_simp; try rfl)
                simp only [Act.put, List.setIfInBounds_toArray, List.set_cons_zero, List.set_cons_succ]
                refine take_held 9 (by assumption) rfl (by kernel_rfl) (by kernel_rfl) (by kernel_rfl) (fun _ _ _ h => h) (by kernel_rfl) (v := ?v40) ?y40 ?r40
                case y40 => (intro u hu; go_simp; try rfl)
                simp only [Act.put, List.setIfInBounds_toArray, List.set_cons_zero, List.set_cons_succ]
                refine take_held 10 (by assumption) rfl (by kernel_rfl) (by kernel_rfl) (by kernel_rfl) (fun _ _ _ h => h) (by kernel_rfl) (v := ?v41) ?y41 ?r41
                case y41 => (intro u hu; go_simp; try rfl)
                simp only [Act.put, List.setIfInBounds_toArray, List.set_cons_zero, List.set_cons_succ]
                refine take_held 11 (by assumption) rfl (by kernel_rfl) (by kernel_rfl) (by kernel_rfl) (fun _ _ _ h => h) (by kernel_rfl) (v := .agg #[.int .i64 x, .int .i64 y]) ?y42 ?r42
                case y42 => (intro u hu; exact run_load_op 39 _ rfl (p.add (k * 3)) _ rfl (H1.out u hu) (aggCell u) infoCell2)
                simp only [Act.put, List.setIfInBounds_toArray, List.set_cons_zero, List.set_cons_succ]
                refine take_held 12 (by assumption) rfl (by kernel_rfl) (by kernel_rfl) (by kernel_rfl) (fun _ _ _ h => h) (by kernel_rfl) (v := .bool (decide ((q, r) = (x, y)))) ?y43 ?r43
                case y43 => (intro u hu; exact run_eql_cell _ _ rfl q r x y rfl rfl)
                simp only [Act.put, List.setIfInBounds_toArray, List.set_cons_zero, List.set_cons_succ]
                refine done_held (by kernel_rfl) ?_ _
                have HI9 : Hid (IH wr.drew) := hS9
                by_cases hz : (q, r) = (x, y)
                · have HT : Hid (R = false) := HTj.out hz
                  rw [decide_eq_true hz]
                  go_wp2
                  go_ret
                  exact ⟨_, rfl, congrArg Value.bool HT.out.symm, bcat B (kI _ hS9) (Nat.le_refl _)⟩
                · have HD9 : Hid (∀ i (hi : i < j + 1) (h' : i < c.stacks.length), (c.stacks[i]'h').1 ≠ (x, y)) := HDj.out hz
                  rw [decide_eq_false hz]
                  go_wp2
                  go_roundw
                  case rel => exact ⟨j + 1, by omega, by go_num, HI9, HD9⟩
                  case measure => simp [intOf]; omega
              · obtain rfl : j = k := by omega
                have y2 := z2 _ HI.out
                have HB2 : Hid (Bn w c #[.int .i64 c.W, .int .i64 c.H, .int .i64 c.height, vb, vp, vr, .slice (some p) n cap, .int .i64 c.unit, .int .i64 c.accel, .int .i64 c.speed, .int .i64 c.turn, .int .i64 c.hoist, .int .i64 c.queue, .int .i64 c.resend, .int .i64 c.budget, .bool c.back] u3 j wr) := HB.out.go (kI _ HI.out)
                have hsm := HB2.out.small
                have hfw := HB2.out.few
                have hown := HB2.out.own
                go_wp2_with (at_builtin; refine wpList_app kindInt rfl _ _ rfl (w.heap.size + 1) u3 (flatT c j) rfl hown F _ bs rfl (hbu _ HI.out) (by omega) (by unfold maxLen; omega) (Nat.le_trans (lt_of_heap HB2.out.box.a) (Nat.le_refl _)) ?_; intro v9 w9 own9 g9 at9)
                have HB9 : Hid (Bn w c #[.int .i64 c.W, .int .i64 c.H, .int .i64 c.height, vb, vp, vr, .slice (some p) n cap, .int .i64 c.unit, .int .i64 c.accel, .int .i64 c.speed, .int .i64 c.turn, .int .i64 c.hoist, .int .i64 c.queue, .int .i64 c.resend, .int .i64 c.budget, .bool c.back] v9 (j + 1) w9) := HNx.out h256 (of_decide_eq_true HSB.out) hbl (fun i hi => HD.out i hi _) HB2.out own9 g9
                go_roundw
                case rel => exact ⟨j + 1, by omega, by go_num, HB9⟩
                case measure => simp [intOf]; omega
          · have HT : Hid (R = false) := HBad.out (fun h => hbl h.2)
            have hbl2 : (bs.length : Int) > c.height := by omega
            refine take_held 14 (by assumption) rfl (by kernel_rfl) (by kernel_rfl) (by kernel_rfl) (fun _ _ _ h => h) (by kernel_rfl) (v := ?v44) ?y44 ?r44
            case y44 => (intro u hu; go_simp; try rfl)
            simp only [Act.put, List.setIfInBounds_toArray, List.set_cons_zero, List.set_cons_succ]
            refine take_held 15 (by assumption) rfl (by kernel_rfl) (by kernel_rfl) (by kernel_rfl) (fun _ _ _ h => h) (by kernel_rfl) (v := ?v45) ?y45 ?r45
            case y45 => (intro u hu; have zz0 := z6 u hu; go_simp; try rfl)
            simp only [Act.put, List.setIfInBounds_toArray, List.set_cons_zero, List.set_cons_succ]
            refine take_held 16 (by assumption) rfl (by kernel_rfl) (by kernel_rfl) (by kernel_rfl) (fun _ _ _ h => h) (by kernel_rfl) (v := ?v46) ?y46 ?r46
            case y46 => (intro u hu; go_simp; try rfl)
            simp only [Act.put, List.setIfInBounds_toArray, List.set_cons_zero, List.set_cons_succ]
            refine take_held 17 (by assumption) rfl (by kernel_rfl) (by kernel_rfl) (by kernel_rfl) (fun _ _ _ h => h) (by kernel_rfl) (v := ?v47) ?y47 ?r47
            case y47 => (intro u hu; go_simp; try rfl)
            simp only [Act.put, List.setIfInBounds_toArray, List.set_cons_zero, List.set_cons_succ]
            refine take_held 18 (by assumption) rfl (by kernel_rfl) (by kernel_rfl) (by kernel_rfl) (fun _ _ _ h => h) (by kernel_rfl) (v := ?v48) ?y48 ?r48
            case y48 => (intro u hu; go_simp; try rfl)
            simp only [Act.put, List.setIfInBounds_toArray, List.set_cons_zero, List.set_cons_succ]
            refine take_held 19 (by assumption) rfl (by kernel_rfl) (by kernel_rfl) (by kernel_rfl) (fun _ _ _ h => h) (by kernel_rfl) (v := ?v49) ?y49 ?r49
            case y49 => (intro u hu; have zz0 := z2 u hu; go_simp; try rfl)
            simp only [Act.put, List.setIfInBounds_toArray, List.set_cons_zero, List.set_cons_succ]
            refine take_held 20 (by assumption) rfl (by kernel_rfl) (by kernel_rfl) (by kernel_rfl) (fun _ _ _ h => h) (by kernel_rfl) (v := ?v50) ?y50 ?r50
            case y50 => (intro u hu; go_simp; try rfl)
            simp only [Act.put, List.setIfInBounds_toArray, List.set_cons_zero, List.set_cons_succ]
            refine take_held 21 (by assumption) rfl (by kernel_rfl) (by kernel_rfl) (by kernel_rfl) (fun _ _ _ h => h) (by kernel_rfl) (v := ?v51) ?y51 ?r51
            case y51 => (intro u hu; go_simp; try rfl)
            simp only [Act.put, List.setIfInBounds_toArray, List.set_cons_zero, List.set_cons_succ]
            refine take_held 22 (by assumption) rfl (by kernel_rfl) (by kernel_rfl) (by kernel_rfl) (fun _ _ _ h => h) (by kernel_rfl) (v := ?v52) ?y52 ?r52
            case y52 => (intro u hu; have zz0 := zh u hu; go_simp; try rfl)
            simp only [Act.put, List.setIfInBounds_toArray, List.set_cons_zero, List.set_cons_succ]
            refine take_held 23 (by assumption) rfl (by kernel_rfl) (by kernel_rfl) (by kernel_rfl) (fun _ _ _ h => h) (by kernel_rfl) (v := .bool true) ?y53 ?r53
            case y53 => (intro u hu; go_simp; try simp [hbl2]; try omega)
            simp only [Act.put, List.setIfInBounds_toArray, List.set_cons_zero, List.set_cons_succ]
            refine take_held 24 (by assumption) rfl (by kernel_rfl) (by kernel_rfl) (by kernel_rfl) (fun _ _ _ h => h) (by kernel_rfl) (v := ?v54) ?y54 ?r54
            case y54 => (intro u hu; go_simp; try rfl)
            simp only [Act.put, List.setIfInBounds_toArray, List.set_cons_zero, List.set_cons_succ]
            refine done_held (by kernel_rfl) ?_ _
            go_wp2
            go_ret
            exact ⟨_, rfl, congrArg Value.bool HT.out.symm, B6⟩
    · obtain rfl : k = n := by omega
      have HA : Hid (decide (mayBeP (flatT c k)) = R) := by
        show decide (mayBeP (flatT c k)) = R
        rw [← HR.out]
        have := HB.out
        rw [← Hn.out] at this ⊢
        exact (bins_all this).symm
      have hown := HB.out.own
      have hsm := HB.out.small
      have hfw := HB.out.few
      obtain ⟨a3, cap3, hv3, h03, hc3, _⟩ := own_form hown
      subst hv3
      generalize hAA : flatT c k = A at *
      have HAA : Hid (flatT c k = A) := hAA
      clear hAA
      obtain ⟨N, hN⟩ : ∃ N, A.length = N := ⟨_, rfl⟩
      have HN : Hid (A.length = N) := hN
      rw [hN] at hown hsm h03 hc3
      rw [hN] at HB ⊢
      have hLA : ListAt 1 intEl (Since (w.heap.size + 1) wr) A (.slice a3 N cap3) wr := by
        have := hown
        rw [← hN] at this
        rw [← hN]
        exact list_of_own kindInt.len this
      clear hN hown
      by_cases h512 : N ≤ 512
      · have h512' : ¬ (512 : Int) < (N : Int) := by omega
        have B := HB.out.box.below
        obtain ⟨IW, hIW⟩ : ∃ I : World → Prop, I = Below wr.heap.size wr := ⟨_, rfl⟩
        have kW : ∀ u, IW u → Below wr.heap.size wr u := fun u hu => by rw [hIW] at hu; exact hu
        have HW0 : Hid (IW wr) := by show IW wr; rw [hIW]; exact Below.refl _ _
        have hit : ∀ i (hi : i < A.length), ∃ p, a3 = some p ∧ ∀ u, IW u → u.cell? (p.add i) = some (.int .i64 (A[i]'hi)) := fun i hi => by
          obtain ⟨p, cs, cap', hv, _, hcs, hrd⟩ := hLA.item hi
          obtain rfl := hcs
          injection hv with h1 h2 h3
          refine ⟨p, h1, fun u hu => cell_below ?_ (kW u hu)⟩
          have := hrd 0 _ rfl
          rw [Nat.mul_one, add_add, Nat.add_zero] at this
          exact this
        have Hit : Hid (∀ i (hi : i < A.length), ∃ p, a3 = some p ∧ ∀ u, IW u → u.cell? (p.add i) = some (.int .i64 (A[i]'hi))) := hit
        clear hit hLA
        go_wp2
        go_loopw [6] (fun i wq => ∃ k2 : Nat, k2 ≤ N ∧ i = .int .i64 k2 ∧ Hid (IW wq) ∧ Hid (∀ i (hi : i < k2) (h' : i < A.length), upTo (A[i]'h') 1000000000 = true ∧ ∀ j (hj : j < i), (A[j]'(by omega)) ≠ A[i]'h')) (fun i _ => N - (intOf i).toNat)
        case atStart => exact ⟨0, Nat.zero_le _, rfl, HW0, fun i hi => by omega⟩
        case round =>
          obtain ⟨k2, hk2, rfl, HI, HD⟩ := hrel
          by_cases hkN : k2 < N
          · have hk' : k2 < A.length := by rw [HN.out]; exact hkN
            obtain ⟨p, hp, hck⟩ := Hit.out k2 hk'
            subst hp
            have HBad : Hid (upTo (A[k2]'hk') 1000000000 = false → R = false) := fun h => HA.out ▸ mayBe_bad hk' h
            have HTw : Hid (∀ j (hj : j < k2), (A[j]'(by omega)) = A[k2]'hk' → R = false) := fun j hj h => HA.out ▸ mayBe_twice hk' hj h
            have HDk : Hid (upTo (A[k2]'hk') 1000000000 = true → (∀ j (hj : j < k2), (A[j]'(by omega)) ≠ A[k2]'hk') → ∀ i (hi : i < k2 + 1) (h' : i < A.length), upTo (A[i]'h') 1000000000 = true ∧ ∀ j (hj : j < i), (A[j]'(by omega)) ≠ A[i]'h') := fun h1 h2 i hi h' => by
              by_cases q : i < k2
              · exact HD.out i q h'
              · obtain rfl : i = k2 := by omega
                exact ⟨h1, h2⟩
            generalize A[k2]'hk' = z at *
            have ck := hck _ HI.out
            have cW := fun u => within_up z 1000000000 u
            have BW := bcat B (kW _ HI.out) (Nat.le_refl _)
            cases hu : upTo z 1000000000
            · rw [hu] at cW
              have HT : Hid (R = false) := HBad.out hu
              go_wp2_with (go_at_call 61; refine (cW _).mono ?_; rintro e w1 ⟨rfl, hw1⟩; rw [hw1]; clear hw1 w1)
              go_ret
              exact ⟨_, rfl, congrArg Value.bool HT.out.symm, BW⟩
            · rw [hu] at cW
              go_wp2_with (go_at_call 61; refine (cW _).mono ?_; rintro e w1 ⟨rfl, hw1⟩; rw [hw1]; clear hw1 w1)
              go_loopw [7] (fun i wq => ∃ j : Nat, j ≤ k2 ∧ i = .int .i64 j ∧ Hid (IW wq) ∧ Hid (∀ i (hi : i < j) (h' : i < A.length), (A[i]'h') ≠ z)) (fun i _ => k2 - (intOf i).toNat)
              case atStart => exact ⟨0, Nat.zero_le _, rfl, HI, fun i hi => by omega⟩
              case round =>
                obtain ⟨j, hj, rfl, HJ, HE⟩ := hrel
                by_cases hjk : j < k2
                · have hjN : j < N := by omega
                  have hj' : j < A.length := by rw [HN.out]; exact hjN
                  obtain ⟨p2, hp2, hcj⟩ := Hit.out j hj'
                  obtain rfl : p = p2 := by injection hp2
                  have HTj : Hid ((A[j]'hj') = z → R = false) := fun h => HTw.out j hjk h
                  have HEj : Hid ((A[j]'hj') ≠ z → ∀ i (hi : i < j + 1) (h' : i < A.length), (A[i]'h') ≠ z) := fun h i hi h' => by
                    by_cases q : i < j
                    · exact HE.out i q h'
                    · obtain rfl : i = j := by omega
                      exact h
                  generalize A[j]'hj' = y at *
                  go_wp2
                  have hS9 : IW wr.drew := by
                    have := HJ.out
                    rw [hIW] at this ⊢
                    exact bcat this (Below.refl _ _).drew (Nat.le_refl _)
                  refine start_held (S := IW) 9 rfl (by kernel_rfl) (hS9) ?_
                  simp only [Array.replicate_succ, Array.replicate_zero, List.push_toArray, List.nil_append, List.cons_append]
                  refine take_held 0 (by assumption) rfl (by kernel_rfl) (by kernel_rfl) (by kernel_rfl) (fun _ _ _ h => h) (by kernel_rfl) (v := ?v55) ?y55 ?r55
                  case y55 => (intro u hu; go_simp; try rfl)
                  simp only [Act.put, List.setIfInBounds_toArray, List.set_cons_zero, List.set_cons_succ]
                  refine take_held 1 (by assumption) rfl (by kernel_rfl) (by kernel_rfl) (by kernel_rfl) (fun _ _ _ h => h) (by kernel_rfl) (v := ?v56) ?y56 ?r56
                  case y56 => (intro u hu; go_simp; try rfl)
                  simp only [Act.put, List.setIfInBounds_toArray, List.set_cons_zero, List.set_cons_succ]
                  refine take_held 2 (by assumption) rfl (by kernel_rfl) (by kernel_rfl) (by kernel_rfl) (fun _ _ _ h => h) (by kernel_rfl) (v := ?v57) ?y57 ?r57
                  case y57 => (intro u hu; go_simp; try rfl)
                  simp only [Act.put, List.setIfInBounds_toArray, List.set_cons_zero, List.set_cons_succ]
                  refine take_held 3 (by assumption) rfl (by kernel_rfl) (by kernel_rfl) (by kernel_rfl) (fun _ _ _ h => h) (by kernel_rfl) (v := ?v58) ?y58 ?r58
                  case y58 => (intro u hu; have zz0 := hcj u hu; go_simp; try rfl)
                  simp only [Act.put, List.setIfInBounds_toArray, List.set_cons_zero, List.set_cons_succ]
                  refine take_held 4 (by assumption) rfl (by kernel_rfl) (by kernel_rfl) (by kernel_rfl) (fun _ _ _ h => h) (by kernel_rfl) (v := ?v59) ?y59 ?r59
                  case y59 => (intro u hu; go_simp; try rfl)
                  simp only [Act.put, List.setIfInBounds_toArray, List.set_cons_zero, List.set_cons_succ]
                  refine take_held 5 (by assumption) rfl (by kernel_rfl) (by kernel_rfl) (by kernel_rfl) (fun _ _ _ h => h) (by kernel_rfl) (v := ?v60) ?y60 ?r60
                  case y60 => (intro u hu; go_simp; try rfl)
                  simp only [Act.put, List.setIfInBounds_toArray, List.set_cons_zero, List.set_cons_succ]
                  refine take_held 6 (by assumption) rfl (by kernel_rfl) (by kernel_rfl) (by kernel_rfl) (fun _ _ _ h => h) (by kernel_rfl) (v := ?v61) ?y61 ?r61
                  case y61 => (intro u hu; go_simp; try rfl)
                  simp only [Act.put, List.setIfInBounds_toArray, List.set_cons_zero, List.set_cons_succ]
                  refine take_held 7 (by assumption) rfl (by kernel_rfl) (by kernel_rfl) (by kernel_rfl) (fun _ _ _ h => h) (by kernel_rfl) (v := ?v62) ?y62 ?r62
                  case y62 => (intro u hu; have zz0 := hck u hu; go_simp; try rfl)
                  simp only [Act.put, List.setIfInBounds_toArray, List.set_cons_zero, List.set_cons_succ]
                  refine take_held 8 (by assumption) rfl (by kernel_rfl) (by kernel_rfl) (by kernel_rfl) (fun _ _ _ h => h) (by kernel_rfl) (v := .bool (decide (y = z))) ?y63 ?r63
                  case y63 => (intro u hu; go_simp; try rw [eq_dec])
                  simp only [Act.put, List.setIfInBounds_toArray, List.set_cons_zero, List.set_cons_succ]
                  refine done_held (by kernel_rfl) ?_ _
                  have HI9 : Hid (IW wr.drew) := hS9
                  by_cases hz : y = z
                  · have HT : Hid (R = false) := HTj.out hz
                    rw [decide_eq_true hz]
                    go_wp2
                    go_ret
                    exact ⟨_, rfl, congrArg Value.bool HT.out.symm, bcat B (kW _ hS9) (Nat.le_refl _)⟩
                  · have HE9 : Hid (∀ i (hi : i < j + 1) (h' : i < A.length), (A[i]'h') ≠ z) := HEj.out hz
                    rw [decide_eq_false hz]
                    go_wp2
                    go_roundw
                    case rel => exact ⟨j + 1, by omega, by go_num, HI9, HE9⟩
                    case measure => simp [intOf]; omega
                · obtain rfl : j = k2 := by omega
                  have HD9 := HDk.out hu (fun i hi => HE.out i hi _)
                  have HDD : Hid (∀ i (hi : i < j + 1) (h' : i < A.length), upTo (A[i]'h') 1000000000 = true ∧ ∀ jj (hj : jj < i), (A[jj]'(by omega)) ≠ A[i]'h') := HD9
                  clear HD9
                  go_wp2
                  go_roundw
                  case rel => exact ⟨j + 1, by omega, by go_num, HJ, HDD⟩
                  case measure => simp [intOf]; omega
          · obtain rfl : k2 = N := by omega
            have HT : Hid (R = true) := by
              show R = true
              rw [← HA.out]
              exact mayBe_yes (by rw [HN.out]; exact h512) (fun i hi => HD.out i (by rw [← HN.out]; exact hi) hi)
            go_wp2
            go_ret
            exact ⟨_, rfl, congrArg Value.bool HT.out.symm, bcat B (kW _ HI.out) (Nat.le_refl _)⟩
      · have h512' : (512 : Int) < (N : Int) := by omega
        have HT : Hid (R = false) := HA.out ▸ mayBe_long (by rw [HN.out]; exact h512)
        have BW := HB.out.box.below
        go_wp2
        go_ret
        exact ⟨_, rfl, congrArg Value.bool HT.out.symm, BW⟩
end Go.Proofs.Ytabbdclpjghdbaa.Grid
