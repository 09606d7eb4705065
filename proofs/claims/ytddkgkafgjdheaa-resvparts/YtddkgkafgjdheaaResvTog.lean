/-
  together: slots that meet or touch become one.
-/
import Derived.Test.YtddkgkafgjdheaaResvSort
import Derived.WalkMore
namespace Go.Proofs.Ytddkgkafgjdheaa.Rs
set_option linter.unusedVariables false
set_option linter.unusedSimpArgs false
open Go Go.RowKit Go.Shelf Go.Proofs Hp
attribute [local go_sem] Oper.semAt_some

theorem step_app {α : Type} {f : α → List Value} {t e : TypeId} {S bytes : Nat} (K : Kind f t e S bytes) {w : World} {ops : Array Oper} {o : Oper} {a : Act} {Kk : Act → World → Prop} {Q : Exit → Act → World → Prop} {E : Prop} (hgd : o.guard = none) (s x : Operand)
    (ho : o.op = .call { callee := .builtin .append, args := #[s, x], argTypes := #[t, t] }) (base : Nat) (v : Value) (xs : List α) (hs : a.eval s = v) (hown : w.ownsRow base e S v xs.length (rowL f xs)) (v2 : Value) (zs : List α) (hx : a.eval x = v2) (hl : (v2 = .slice none 0 0 ∧ zs = []) ∨ ∃ p cap, v2 = .slice (some p) zs.length cap ∧ ∀ j u, (rowL f zs)[j]? = some u → w.cell? (p.add j) = some u)
    (hb : (xs.length + zs.length) * bytes ≤ 140737488355328) (h63 : xs.length + zs.length ≤ maxLen) (hbase : base ≤ w.heap.size)
    (h : ∀ v' w', w'.ownsRow base e S v' (xs ++ zs).length (rowL f (xs ++ zs)) → w.grownBy w' v.ownBlock → (v'.ownBlock = v.ownBlock ∨ v'.ownBlock = some w.heap.size) → Kk (a.put o.dst v') w') :
    if Region.wanted o (yielded ops a.tmps) = true then Oper.wp Try.prog o a w Kk Q else E := by
  have hw : Region.wanted o (yielded ops a.tmps) = true := by simp [Region.wanted, hgd]
  rw [if_pos hw]
  exact wp_app K s x ho base v xs hs hown v2 zs hx hl hb h63 hbase h
theorem lone_at {w : World} {q : Nat} {x : Sl} (c0 : w.cell? ⟨q, 0, none⟩ = some (.int .i64 x.f)) (c1 : w.cell? ⟨q, 1, none⟩ = some (.int .i64 x.t)) (c2 : w.cell? ⟨q, 2, none⟩ = some (.int .i64 x.r)) : (Value.slice (some ⟨q, 0, none⟩) 1 1 = .slice none 0 0 ∧ [x] = []) ∨ ∃ p cap, Value.slice (some ⟨q, 0, none⟩) 1 1 = .slice (some p) [x].length cap ∧ ∀ j u, (rowL slL [x])[j]? = some u → w.cell? (p.add j) = some u := by
  refine Or.inr ⟨⟨q, 0, none⟩, 1, rfl, fun j u hj => ?_⟩
  rw [Addr.add_lit, Nat.zero_add]
  match j with
  | 0 => cases hj; exact c0
  | 1 => cases hj; exact c1
  | 2 => cases hj; exact c2
  | j + 3 => simp [rowL, slL] at hj
theorem drop_at {l : List Sl} {i : Nat} (hi : i < l.length) : l.drop i = l[i] :: l.drop (i + 1) := List.drop_eq_getElem_cons hi
theorem merge_in {one : Sl} {l : List Sl} {i : Nat} (hi : i < l.length) (h : (l[i]).r = one.r ∧ (l[i]).f ≤ one.t) : merge one (l.drop i) = merge ⟨one.f, max one.t (l[i]).t, one.r⟩ (l.drop (i + 1)) := by
  rw [drop_at hi]; simp only [merge]; rw [if_pos h]
theorem merge_no {one : Sl} {l : List Sl} {i : Nat} (hi : i < l.length) (h : ¬ ((l[i]).r = one.r ∧ (l[i]).f ≤ one.t)) (h2 : (l[i]).f < one.t) : merge one (l.drop i) = none := by
  rw [drop_at hi]; simp only [merge]; rw [if_neg h, if_pos h2]
theorem merge_new {one : Sl} {l : List Sl} {i : Nat} (hi : i < l.length) (h : ¬ ((l[i]).r = one.r ∧ (l[i]).f ≤ one.t)) (h2 : ¬ (l[i]).f < one.t) : merge one (l.drop i) = (tog (l.drop i)).map (one :: ·) := by
  rw [drop_at hi]; simp only [merge, tog]; rw [if_neg h, if_neg h2]
theorem merge_first {l : List Sl} (h0 : 0 < l.length) (hf : Fits l) : merge l[0] (l.drop 0) = tog l := by
  match l, h0 with
  | s :: l, _ =>
    have := hf s (List.mem_cons_self ..)
    show (if s.r = s.r ∧ s.f ≤ s.t then merge ⟨s.f, max s.t s.t, s.r⟩ l else if s.f < s.t then none else (merge s l).map (s :: ·)) = merge s l
    rw [if_pos ⟨rfl, by omega⟩, show max s.t s.t = s.t by omega]
def sLen : Value → Nat
  | .slice _ n _ => n
  | _ => 0
/- A box of three, of which the second is stored anew, and one more is laid behind. -/
theorem box_set {w : World} {q : Nat} {a b c v : Value} (c0 : w.cell? ⟨q, 0, none⟩ = some a) (c1 : w.cell? ⟨q, 1, none⟩ = some b) (c2 : w.cell? ⟨q, 2, none⟩ = some c) (fz : ∀ k, w.frozen? ⟨q, k, none⟩ = false) (ob : Obj) :
    ((w.setCell ⟨q, 1, none⟩ v).alloc ob).cell? ⟨q, 0, none⟩ = some a ∧ ((w.setCell ⟨q, 1, none⟩ v).alloc ob).cell? ⟨q, 1, none⟩ = some v ∧ ((w.setCell ⟨q, 1, none⟩ v).alloc ob).cell? ⟨q, 2, none⟩ = some c ∧ (∀ k, ((w.setCell ⟨q, 1, none⟩ v).alloc ob).frozen? ⟨q, k, none⟩ = false) := by
  have hq : q < (w.setCell ⟨q, 1, none⟩ v).heap.size := by simp only [World.setCell, Array.size_modify]; exact World.block_lt_of_cell? w _ c0
  have e : ((w.setCell ⟨q, 1, none⟩ v).alloc ob).heap[q]? = (w.setCell ⟨q, 1, none⟩ v).heap[q]? := ((Below.refl _ _).alloc (Nat.le_refl _) _).block q hq
  refine ⟨(cell_same e).trans ((World.cell?_setCell_other _ _ _ _ (by intro e; cases e)).trans c0), (cell_same e).trans (World.cell?_setCell_same _ _ _ c1), (cell_same e).trans ((World.cell?_setCell_other _ _ _ _ (by intro e; cases e)).trans c2), fun k => (frozen_same e).trans ?_⟩
  rw [World.frozen?_setCell]; exact fz k
/- What together tells. -/
def Tog (B : Nat) (d : List Sl) (v : Value) (ok : Bool) (w : World) : Prop := match tog d with
  | none => v = .slice none 0 0 ∧ ok = false
  | some out => ok = true ∧ w.ownsRow B 40 3 v out.length (rowL slL out)
set_option maxRecDepth 100000 in
set_option maxHeartbeats 4000000 in
theorem together_any (B : Nat) (v : Value) (L : List Sl) (w : World) (own : w.ownsRow B 40 3 v L.length (rowL slL L)) (hf : Fits L) (hb : L.length ≤ 1000000000) (hB : B ≤ w.heap.size) :
    Calls Try.prog 63 #[v] w fun e w' => ∃ rv ok, e = .returned (.tuple #[rv, .bool ok]) ∧ Below B w w' ∧ ∃ d, d.Perm L ∧ ByFrom d ∧ Tog B d rv ok w' := by
  have cS := sort_any B v L w own hb
  have HO : Hid (∀ k, v.ownBlock = some k → B ≤ k) := fun k hk => (own_since own k hk).1
  have hvf : ∃ a cap, v = .slice a L.length cap ∧ L.length ≤ cap ∧ cap ≤ maxLen := by obtain ⟨a, cap, e, _, h1, h2⟩ := own_form own; exact ⟨a, cap, e, h1, h2⟩
  obtain ⟨a, cap, rfl, hc1, hc2⟩ := hvf
  have HF : Hid _ := hf
  have HB : Hid _ := hb
  clear own hf hb
  go_enter Try.func63, Try.ntmps63
  go_wp2_with (first | (go_at_call 67; refine cS.mono ?_; rintro e w1 ⟨rfl, d, p1, q1, R1, g1⟩) | (refine wp_label ?_) | (refine wp_scope_straight ?_))
  have b1 : Hid (Below B w w1) := (Below.refl B w).grown g1 hB HO.out
  have HP : Hid (d.Perm L) := p1
  have HQ : Hid (ByFrom d) := q1
  have fd : Hid (Fits d) := fun s hs => HF.out s (p1.mem_iff.1 hs)
  have ld : Hid (d.length ≤ 1000000000) := by unfold Hid; rw [p1.length_eq]; exact HB.out
  have R0 : Hid (RowAt slL (fun k => k < w1.heap.size) w1 (.slice a L.length cap) d) := (R1.old slL_len).mono fun k hk => hk.2
  clear p1 q1 R1 g1
  go_loopw [0, 4] (fun s0 s4 wr => ∃ (rest done : List Sl), Hid (RowAt slL (fun k => k < w1.heap.size) wr s0 rest) ∧ Hid (wr.ownsRow w1.heap.size 40 3 s4 done.length (rowL slL done)) ∧ Hid (Below w1.heap.size w1 wr) ∧ Hid (tog d = (tog rest).map (done ++ ·)) ∧ Hid (Fits rest) ∧ Hid (done.length + rest.length ≤ 1000000000)) (fun s0 _ _ => sLen s0)
  case atStart => exact ⟨d, [], R0, World.ownsRow_nil _ _ _ _, Below.refl _ _, by unfold Hid; cases tog d <;> simp, fd, by unfold Hid; have := ld.out; simpa using this⟩
  case round =>
    obtain ⟨rest, done, R, O, bw, T, fr, lr⟩ := hrel
    obtain ⟨W0, rfl⟩ : ∃ W0, W0 = wr := ⟨_, rfl⟩
    rcases Nat.eq_zero_or_pos rest.length with h0 | h0
    · obtain rfl : rest = [] := List.eq_nil_of_length_eq_zero h0
      obtain ⟨a0, c0, e0, _⟩ := R.out.form
      obtain ⟨a4, c4, e4, _⟩ := own_form O.out
      have O' := O
      rw [e4] at O'
      subst e0
      subst e4
      have ng : ¬ ((([] : List Sl).length : Int) > 0) := by simp
      simp only [List.length_nil] at ng
      go_wp2
      refine bodyPost_ret (results_tmp2 Try.results63 _ _ _) rfl ?_
      have T2 : tog d = some done := by rw [T.out]; simp [tog]
      exact ⟨_, _, rfl, b1.out.trans (bw.out.mono b1.out.size |>.mono (by have := b1.out.size; omega)), d, HP.out, HQ.out, by unfold Tog; rw [T2]; exact ⟨rfl, owns_base (by have := b1.out.size; omega) O'.out⟩⟩
    · obtain ⟨g, o, c0, e0, hk1, hk2, hk3, hC⟩ := R.out.has h0
      obtain ⟨a4, c4, e4, _⟩ := own_form O.out
      subst e0
      subst e4
      have c0f := hC.at slL_len 0 h0 0 _ rfl
      have c0t := hC.at slL_len 0 h0 1 _ rfl
      have c0r := hC.at slL_len 0 h0 2 _ rfl
      rw [Nat.zero_mul, Nat.add_zero] at c0f c0t c0r
      have hgt : (0 : Int) < (rest.length : Int) := by omega
      have hgw : g < W0.heap.size := Nat.lt_of_lt_of_le hk3 bw.out.size
      have HM0 : Hid (merge rest[0] (rest.drop 0) = tog rest) := merge_first h0 fr.out
      have H00 : Hid ((rest[0]).f < (rest[0]).t) := fr.out _ (List.getElem_mem _)
      have HCs : Hid (Cs slL W0 g o rest) := hC
      obtain ⟨x0, hx0⟩ : ∃ x0, rest[0] = x0 := ⟨_, rfl⟩
      rw [hx0] at c0f c0t c0r HM0 H00
      have HX0 : Hid (rest[0] = x0) := hx0
      clear hx0 hC R
      go_wp2_with fail
      obtain ⟨W1, hW1⟩ : ∃ W1, W0.alloc (.cells #[.int .i64 x0.f, .int .i64 x0.t, .int .i64 x0.r] 40) = W1 := ⟨_, rfl⟩
      rw [hW1]
      have z0 : W1.cell? ⟨W0.heap.size, 0, none⟩ = some (.int .i64 x0.f) := by rw [← hW1]; simp
      have z1 : W1.cell? ⟨W0.heap.size, 1, none⟩ = some (.int .i64 x0.t) := by rw [← hW1]; simp
      have z2 : W1.cell? ⟨W0.heap.size, 2, none⟩ = some (.int .i64 x0.r) := by rw [← hW1]; simp
      have z3 : ∀ k, W1.frozen? ⟨W0.heap.size, k, none⟩ = false := fun k => by rw [← hW1]; simp
      have z4 : Below W0.heap.size W0 W1 := by rw [← hW1]; exact (Below.refl _ _).alloc (Nat.le_refl _) _
      clear hW1 c0f c0t c0r
      go_loopw [0, 4, 18] (fun s0 s4 s18 wr => ∃ (i : Nat) (one : Sl), s0 = .slice (some ⟨g, o, none⟩) rest.length c0 ∧ s4 = .slice a4 done.length c4 ∧ s18 = .int .i64 i ∧ i ≤ rest.length ∧ wr.cell? ⟨W0.heap.size, 0, none⟩ = some (.int .i64 one.f) ∧ wr.cell? ⟨W0.heap.size, 1, none⟩ = some (.int .i64 one.t) ∧ wr.cell? ⟨W0.heap.size, 2, none⟩ = some (.int .i64 one.r) ∧ Hid (∀ k, wr.frozen? ⟨W0.heap.size, k, none⟩ = false) ∧ Hid (Below W0.heap.size W0 wr) ∧ Hid (merge one (rest.drop i) = tog rest) ∧ Hid (i = 0 → one = x0)) (fun _ _ s18 _ => rest.length - (intOf s18).toNat)
      case atStart => exact ⟨0, x0, rfl, rfl, rfl, Nat.zero_le _, z0, z1, z2, z3, z4, HM0, fun _ => rfl⟩
      case round =>
        obtain ⟨i, one, rfl, rfl, rfl, hi, y0, y1, y2, y3, y4, HM, H0⟩ := hrel
        clear z0 z1 z2 z3 z4
        have hq : W0.heap.size < wr.heap.size := World.block_lt_of_cell? _ _ y0
        have f0 := y3.out 0
        have f1 := y3.out 1
        have f2 := y3.out 2
        rcases Nat.lt_or_ge i rest.length with hlt | hge
        · have hCi := HCs.out.go slL_len y4.out
          have cf := hCi.at slL_len i hlt 0 _ rfl
          have ct := hCi.at slL_len i hlt 1 _ rfl
          have cr := hCi.at slL_len i hlt 2 _ rfl
          rw [Nat.add_zero] at cf
          have hsm : (i : Int) + 1 ≤ 1000000000 := by have := lr.out; omega
          have hlt' : (i : Int) < (rest.length : Int) := by omega
          have Hin : Hid ((rest[i]).r = one.r ∧ (rest[i]).f ≤ one.t → merge ⟨one.f, max one.t (rest[i]).t, one.r⟩ (rest.drop (i + 1)) = tog rest) := fun h => by rw [← merge_in hlt h]; exact HM.out
          have Hno : Hid (¬ ((rest[i]).r = one.r ∧ (rest[i]).f ≤ one.t) → (rest[i]).f < one.t → tog rest = none) := fun h h2 => by rw [← HM.out]; exact merge_no hlt h h2
          have Hnew : Hid (¬ ((rest[i]).r = one.r ∧ (rest[i]).f ≤ one.t) → ¬ (rest[i]).f < one.t → tog rest = (tog (rest.drop i)).map (one :: ·)) := fun h h2 => by rw [← HM.out]; exact merge_new hlt h h2
          have Hi0 : Hid (¬ ((rest[i]).r = one.r ∧ (rest[i]).f ≤ one.t) → 0 < i) := fun h => by
            rcases Nat.eq_zero_or_pos i with rfl | k
            · have e := H0.out rfl
              subst e
              exact absurd ⟨by rw [HX0.out], by rw [HX0.out]; have := H00.out; omega⟩ h
            · exact k
          obtain ⟨s, hs⟩ : ∃ s, rest[i] = s := ⟨_, rfl⟩
          rw [hs] at cf ct cr Hin Hno Hnew Hi0
          clear hs hCi HM H0
          by_cases k1 : s.r = one.r
          · have b1' : (s.r == one.r) = true := by simp [k1]
            by_cases k2 : s.f ≤ one.t
            · go_wp2_with fail
              go_roundw
              case measure => simp only [intOf]; omega
              case rel =>
                obtain ⟨q0, q1, q2, q3⟩ := box_set (v := .int .i64 (max one.t s.t)) y0 y1 y2 y3.out (.cells #[.int .i64 s.f, .int .i64 s.t, .int .i64 one.r] 40)
                exact ⟨i + 1, ⟨one.f, max one.t s.t, one.r⟩, rfl, rfl, rfl, hlt, q0, q1, q2, q3, ((y4.out.setCell (p := ⟨W0.heap.size, 1, none⟩) (Nat.le_refl _) _).alloc (by simp only [World.setCell, Array.size_modify]; omega) _), Hin.out ⟨k1, k2⟩, fun e => absurd e (by omega)⟩
            · have k4 : ¬ s.f ≤ one.t := k2
              clear k1
              have kk : Hid (¬ (s.r = one.r ∧ s.f ≤ one.t)) := fun h => (by first | exact k2 h.2 | exact k1 h.1)
              have hne : ¬ c0 = i := by omega
              have k3 : ¬ s.f < one.t := by omega
              obtain ⟨w3, hw3⟩ : ∃ w3, ((wr.alloc (.cells #[.int .i64 s.f, .int .i64 s.t, .int .i64 s.r] 40)).alloc (.cells #[.int .i64 one.f, .int .i64 one.t, .int .i64 one.r] 40)).drew = w3 := ⟨_, rfl⟩
              have b3 : Below wr.heap.size wr w3 := by rw [← hw3]; exact (((Below.refl _ _).alloc (Nat.le_refl _) _).alloc (by simp) _).drew
              have n0 : w3.cell? ⟨wr.heap.size + 1, 0, none⟩ = some (.int .i64 one.f) := by rw [← hw3]; simp
              have n1 : w3.cell? ⟨wr.heap.size + 1, 1, none⟩ = some (.int .i64 one.t) := by rw [← hw3]; simp
              have n2 : w3.cell? ⟨wr.heap.size + 1, 2, none⟩ = some (.int .i64 one.r) := by rw [← hw3]; simp
              have hrow : w3.ownsRow w1.heap.size 40 3 (.slice a4 done.length c4) done.length (rowL slL done) := owns_go (owns_go O.out y4.out) b3
              have hb9 : Hid (w1.heap.size ≤ w3.heap.size) := Nat.le_trans bw.out.size (Nat.le_trans y4.out.size b3.size)
              have hcap : i ≤ c0 := by omega
              have hnl : ¬ ((rest.length : Int) < (i : Int)) := by omega
              have HCs := HCs
              go_wp2_with fail
              go_region_law (refine step_app kindSl (by rfl) (.tmp 23) (.tmp 25) (by rfl) w1.heap.size (.slice a4 done.length c4) done (by simp [Act.eval, Act.put]) hrow _ [one] (by simp [Act.eval, Act.put]) (lone_at n0 n1 n2) (by have := lr.out; simp; omega) (by have := lr.out; unfold maxLen; simp; omega) hb9.out ?_; intro v2 w2 o2 g2 a2)
              all_goals
                simp only [List.getElem_toArray, List.getElem_cons_succ, List.getElem_cons_zero]
                go_simp
                go_wp2_with fail
                go_roundw
                case measure => simp only [sLen]; have := Hi0.out kk.out; omega
                case rel =>
                  have hnw := Hnew.out kk.out k3
                  refine ⟨rest.drop i, done ++ [one], ?_, o2, ?_, ?_, ?_, ?_⟩
                  · refine Or.inr ⟨g, o + i * 3, c0 - i, by rw [List.length_drop], by rw [List.length_drop]; omega, by omega, fun _ => hk3, ?_⟩
                    have hg9 : w2.heap[g]? = W0.heap[g]? := (g2.block g (by have := b3.size; have := y4.out.size; omega) (fun e => by have := (own_since O.out g e.symm).1; omega)).trans ((b3.block g (by have := y4.out.size; omega)).trans (y4.out.block g hgw))
                    exact (HCs.same hg9).drop slL_len i
                  · exact (bw.out.trans ((y4.out.mono bw.out.size).trans (b3.mono (Nat.le_trans bw.out.size y4.out.size)))).grown g2 hb9.out (fun k hk => (own_since O.out k hk).1)
                  · unfold Hid
                    rw [T.out, hnw]
                    cases tog (rest.drop i) <;> simp
                  · exact fun x hx => fr.out x (List.mem_of_mem_drop hx)
                  · unfold Hid
                    have := lr.out
                    have := Hi0.out kk.out
                    rw [List.length_append, List.length_drop]
                    simp
                    omega
          · have b1' : (s.r == one.r) = false := by simp [k1]
            by_cases k2 : s.f < one.t
            · have kn := Hno.out (fun h => k1 h.1) k2
              have T2 : Hid (tog d = none) := by unfold Hid; rw [T.out, kn]; rfl
              clear kn
              go_wp2
              refine bodyPost_ret (results_tmp2 Try.results63 _ _ _) rfl ?_
              exact ⟨_, _, rfl, (b1.out.trans (bw.out.mono (by have := b1.out.size; omega))).trans ((((y4.out.mono (Nat.le_trans (by have := b1.out.size; omega) bw.out.size))).alloc (by have := b1.out.size; have := bw.out.size; have := y4.out.size; omega) _)), d, HP.out, HQ.out, by unfold Tog; rw [T2.out]; exact ⟨rfl, rfl⟩⟩
            · skip
              have kk : Hid (¬ (s.r = one.r ∧ s.f ≤ one.t)) := fun h => (by first | exact k2 h.2 | exact k1 h.1)
              have hne : ¬ c0 = i := by omega
              have k3 : ¬ s.f < one.t := by omega
              obtain ⟨w3, hw3⟩ : ∃ w3, ((wr.alloc (.cells #[.int .i64 s.f, .int .i64 s.t, .int .i64 s.r] 40)).alloc (.cells #[.int .i64 one.f, .int .i64 one.t, .int .i64 one.r] 40)).drew = w3 := ⟨_, rfl⟩
              have b3 : Below wr.heap.size wr w3 := by rw [← hw3]; exact (((Below.refl _ _).alloc (Nat.le_refl _) _).alloc (by simp) _).drew
              have n0 : w3.cell? ⟨wr.heap.size + 1, 0, none⟩ = some (.int .i64 one.f) := by rw [← hw3]; simp
              have n1 : w3.cell? ⟨wr.heap.size + 1, 1, none⟩ = some (.int .i64 one.t) := by rw [← hw3]; simp
              have n2 : w3.cell? ⟨wr.heap.size + 1, 2, none⟩ = some (.int .i64 one.r) := by rw [← hw3]; simp
              have hrow : w3.ownsRow w1.heap.size 40 3 (.slice a4 done.length c4) done.length (rowL slL done) := owns_go (owns_go O.out y4.out) b3
              have hb9 : Hid (w1.heap.size ≤ w3.heap.size) := Nat.le_trans bw.out.size (Nat.le_trans y4.out.size b3.size)
              have hcap : i ≤ c0 := by omega
              have hnl : ¬ ((rest.length : Int) < (i : Int)) := by omega
              have HCs := HCs
              go_wp2_with fail
              go_region_law (refine step_app kindSl (by rfl) (.tmp 23) (.tmp 25) (by rfl) w1.heap.size (.slice a4 done.length c4) done (by simp [Act.eval, Act.put]) hrow _ [one] (by simp [Act.eval, Act.put]) (lone_at n0 n1 n2) (by have := lr.out; simp; omega) (by have := lr.out; unfold maxLen; simp; omega) hb9.out ?_; intro v2 w2 o2 g2 a2)
              all_goals
                simp only [List.getElem_toArray, List.getElem_cons_succ, List.getElem_cons_zero]
                go_simp
                go_wp2_with fail
                go_roundw
                case measure => simp only [sLen]; have := Hi0.out kk.out; omega
                case rel =>
                  have hnw := Hnew.out kk.out k3
                  refine ⟨rest.drop i, done ++ [one], ?_, o2, ?_, ?_, ?_, ?_⟩
                  · refine Or.inr ⟨g, o + i * 3, c0 - i, by rw [List.length_drop], by rw [List.length_drop]; omega, by omega, fun _ => hk3, ?_⟩
                    have hg9 : w2.heap[g]? = W0.heap[g]? := (g2.block g (by have := b3.size; have := y4.out.size; omega) (fun e => by have := (own_since O.out g e.symm).1; omega)).trans ((b3.block g (by have := y4.out.size; omega)).trans (y4.out.block g hgw))
                    exact (HCs.same hg9).drop slL_len i
                  · exact (bw.out.trans ((y4.out.mono bw.out.size).trans (b3.mono (Nat.le_trans bw.out.size y4.out.size)))).grown g2 hb9.out (fun k hk => (own_since O.out k hk).1)
                  · unfold Hid
                    rw [T.out, hnw]
                    cases tog (rest.drop i) <;> simp
                  · exact fun x hx => fr.out x (List.mem_of_mem_drop hx)
                  · unfold Hid
                    have := lr.out
                    have := Hi0.out kk.out
                    rw [List.length_append, List.length_drop]
                    simp
                    omega
        · obtain rfl : i = rest.length := by omega
          have Tm : tog rest = some [one] := by rw [← HM.out, List.drop_length]; rfl
          obtain ⟨w3, hw3⟩ : ∃ w3, (wr.alloc (.cells #[.int .i64 one.f, .int .i64 one.t, .int .i64 one.r] 40)) = w3 := ⟨_, rfl⟩
          have b3 : Below wr.heap.size wr w3 := by rw [← hw3]; exact ((Below.refl _ _).alloc (Nat.le_refl _) _)
          have n0 : w3.cell? ⟨wr.heap.size, 0, none⟩ = some (.int .i64 one.f) := by rw [← hw3]; simp
          have n1 : w3.cell? ⟨wr.heap.size, 1, none⟩ = some (.int .i64 one.t) := by rw [← hw3]; simp
          have n2 : w3.cell? ⟨wr.heap.size, 2, none⟩ = some (.int .i64 one.r) := by rw [← hw3]; simp
          have hrow : w3.ownsRow w1.heap.size 40 3 (.slice a4 done.length c4) done.length (rowL slL done) := owns_go (owns_go O.out y4.out) b3
          have hb9 : Hid (w1.heap.size ≤ w3.heap.size) := Nat.le_trans bw.out.size (Nat.le_trans y4.out.size b3.size)
          go_wp2_with (at_builtin; refine wpList_app kindSl rfl (.tmp 56) (.tmp 58) rfl w1.heap.size (.slice a4 done.length c4) done rfl hrow _ [one] rfl (lone_at n0 n1 n2) (by have := lr.out; simp; omega) (by have := lr.out; unfold maxLen; simp; omega) hb9.out ?_; intro v2 w2 o2 g2 a2)
          go_roundw
          case measure => simp only [sLen]; omega
          case rel =>
            refine ⟨[], done ++ [one], RowAt.nil _ _ _, o2, ?_, ?_, ?_, ?_⟩
            · exact (bw.out.trans ((y4.out.mono bw.out.size).trans (b3.mono (Nat.le_trans bw.out.size y4.out.size)))).grown g2 hb9.out (fun k hk => (own_since O.out k hk).1)
            · unfold Hid
              rw [T.out, Tm]
              simp [tog]
            · exact fun x hx => by cases hx
            · unfold Hid
              have := lr.out
              rw [List.length_append]
              simp
              omega
end Go.Proofs.Ytddkgkafgjdheaa.Rs
