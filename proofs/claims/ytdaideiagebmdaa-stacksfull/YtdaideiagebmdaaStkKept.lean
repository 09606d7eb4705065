/-
  StacksKept: the walk.
-/
import Derived.Test.YtdaideiagebmdaaStkM3
namespace Go.Proofs.Ytdaideiagebmdaa.Stk
set_option linter.unusedVariables false
set_option linter.unusedSimpArgs false
open Go Go.RowKit Go.Shelf Go.Proofs Go.Proofs.Ytdaideiagebmdaa.Grid
attribute [local go_sem] Oper.semAt_some

abbrev OpT := Int × Int × Cell
def opEl (F : Nat → Prop) (o : OpT) (cs : Array Value) (u : World) : Prop := cs = #[.int .i64 o.1, .int .i64 o.2.1, .int .i64 o.2.2.1, .int .i64 o.2.2.2]
theorem heldOp : Held opEl 4 := ⟨fun h => by rw [h]; rfl, fun h => by rw [h]; simp [Value.oneCell'], fun h _ => h, fun h _ => h⟩
theorem aggOp (w : World) : (isAgg 78).run Try.prog w = .ok true w := by unfold isAgg; rw [Sem.run_bind, run_underlying Try.underlying78 w]; rfl
theorem infoOp : (Try.prog.info? 78).map (·.size) = some 4 := by kernel_rfl
theorem owns_less {w : World} {base base' : Nat} {e : TypeId} {S : Nat} {v : Value} {n : Nat} {xs : List Value} (h : w.ownsRow base e S v n xs) (hb : base' ≤ base) : w.ownsRow base' e S v n xs := by
  refine ⟨h.1, ?_⟩
  rcases h.2 with q | ⟨g, cap, cur, q, h1, rest⟩
  · exact Or.inl q
  · exact Or.inr ⟨g, cap, cur, q, Nat.le_trans hb h1, rest⟩
theorem same_was {w : World} {K : Sk} {c : Conf} {us : List Int} {ps : List Pile} {ls : List Int} {v7 : Value} {B0 : List Int} {u : World} (hL : Lw w K c us ps ls v7 B0 u) {base : Nat} {v : Value} (own : u.ownsRow base 3 1 v (allB ps ls).length (rowL intL (sortedI (allB ps ls)))) (hb : (allB ps ls).length ≤ 9223372036854775807) :
    Calls Try.prog 63 #[v, v7] u fun e w' => ∃ r, e = .returned r ∧ r = .bool true ∧ Below u.heap.size u w' := by
  have o2 := hL.own
  rw [← (sorted_perm (allB ps ls)).length_eq] at own
  rw [← (sorted_perm B0).length_eq] at o2
  have := sameInts_any _ _ (sortedI (allB ps ls)) (sortedI B0) v v7 u (list_of_own kindInt.len own) (list_of_own kindInt.len o2) since_lt since_lt (by rw [(sorted_perm (allB ps ls)).length_eq]; exact hb) (by rw [(sorted_perm B0).length_eq, ← hL.perm.length_eq]; exact hb)
  rw [decide_eq_true (sorted_same hL.perm)] at this
  exact this
theorem allB_len {K : Sk} {c : Conf} {us : List Int} {ps : List Pile} {ls : List Int} {w : World} (h : StAt K c us ps ls w) : (allB ps ls).length ≤ 4096 := by
  have h1 := flatK_len h.small ps.length
  have h2 := h.lens
  have h3 := h.few
  unfold flatK at h1
  rw [List.take_length] at h1
  have h4 : (ls.filter (fun z => z != 0)).length ≤ ls.length := List.length_filter_le _ _
  unfold allB
  rw [List.length_append]
  omega
theorem mem_bins {ps : List Pile} {ls : List Int} {j : Nat} {p : Pile} (h : ps[j]? = some p) {z : Int} (hz : z ∈ p.2.2) : z ∈ allB ps ls := by
  unfold allB
  refine List.mem_append_left _ (List.mem_flatMap.2 ⟨p, List.mem_of_getElem? h, hz⟩)
theorem top_mem {bs : List Int} (h : bs ≠ []) : topP bs ∈ bs := by
  have h1 := top_last h
  have h2 : topP bs ∈ bs.dropLast ++ [topP bs] := by simp
  rw [h1] at h2
  exact h2
theorem first_bins {c : Conf} {ps : List Pile} {n : Nat} (hm : mayBeP (c.stacks.flatMap Prod.snd)) (hp : (ps.flatMap (fun p => p.2.2)).Perm (c.stacks.flatMap (fun s => s.2))) : (allB ps (List.replicate n 0)).Nodup ∧ ∀ z ∈ allB ps (List.replicate n 0), z ≠ 0 := by
  have e : allB ps (List.replicate n 0) = ps.flatMap (fun p => p.2.2) := by
    unfold allB
    rw [List.filter_eq_nil_iff.2 (fun a ha => by rw [List.eq_of_mem_replicate ha]; simp), List.append_nil]
  rw [e]
  refine ⟨hp.nodup_iff.2 hm.2.2, fun z hz => ?_⟩
  have := hm.2.1 z (hp.mem_iff.1 hz)
  omega
theorem strict {l : List Int} (h : l.Nodup) {i : Nat} (hi : i + 1 < l.length) : (sortedI l).getD i 0 < (sortedI l).getD (i + 1) 0 := by
  have hl := (sorted_perm l).length_eq
  have h1 := List.pairwise_iff_getElem.1 (sorted_pair l) i (i + 1) (by omega) (by omega) (by omega)
  have h2 := List.pairwise_iff_getElem.1 ((sorted_perm l).nodup_iff.2 h) i (i + 1) (by omega) (by omega) (by omega)
  rw [List.getD_eq_getElem?_getD, List.getD_eq_getElem?_getD, List.getElem?_eq_getElem (by omega), List.getElem?_eq_getElem (by omega)]
  simp only [Option.getD_some]
  omega
set_option maxRecDepth 100000 in
set_option maxHeartbeats 4000000 in
theorem kept_all (c : Conf) (vb vp vr vs : Value) (w : World) (hA : ConfAt (Old w) c vb vp vr vs w) (l1 : c.blocked.length ≤ 8796093022208) (l2 : c.ports.length ≤ 8796093022208) (l3 : c.robots.length ≤ 5864062014805) (l4 : c.stacks.length ≤ 3518437208880) (l5 : ∀ s ∈ c.stacks, s.2.length ≤ 17592186044416) (os : List OpT) (vo : Value) (hO : ListAt 4 opEl (Old w) os vo w) (lo : os.length ≤ 9223372036854775807) : Calls Try.prog 14 #[.agg #[.int .i64 c.W, .int .i64 c.H, .int .i64 c.height, vb, vp, vr, vs, .int .i64 c.unit, .int .i64 c.accel, .int .i64 c.speed, .int .i64 c.turn, .int .i64 c.hoist, .int .i64 c.queue, .int .i64 c.resend, .int .i64 c.budget, .bool c.back], vo] w fun e w' => e = .returned (.bool true) ∧ Below w.heap.size w w' := by
  have L := fun (u : World) (b : Below w.heap.size w u) g (hg : Old w g) => Nat.lt_of_lt_of_le hg b.size
  have hAu := fun u (b : Below w.heap.size w u) => hA.go (fun _ h => h) b
  have cC := fun u (b : Below w.heap.size w u) => copyConf_any (Old w) c vb vp vr vs u (hAu u b) (L u b) l1 l2 l3 l4 l5
  have cM := fun u (b : Below w.heap.size w u) => mayR_call (F := Old w) (hAu u b) (L u b) l1 l2 l3 l4 l5
  have cS := fun u (b : Below w.heap.size w u) => small_any (Old w) c vb vp vr vs u (hAu u b) (L u b) l1 l2 l3 l4 l5
  have Q0 : One w #[.int .i64 c.W, .int .i64 c.H, .int .i64 c.height, vb, vp, vr, vs, .int .i64 c.unit, .int .i64 c.accel, .int .i64 c.speed, .int .i64 c.turn, .int .i64 c.hoist, .int .i64 c.queue, .int .i64 c.resend, .int .i64 c.budget, .bool c.back] (w.alloc (.cells #[.int .i64 c.W, .int .i64 c.H, .int .i64 c.height, vb, vp, vr, vs, .int .i64 c.unit, .int .i64 c.accel, .int .i64 c.speed, .int .i64 c.turn, .int .i64 c.hoist, .int .i64 c.queue, .int .i64 c.resend, .int .i64 c.budget, .bool c.back] 26)) := ⟨below_new (Below.refl _ _) _, heap_alloc_new w _⟩
  obtain ⟨ao, capo, hvo, _⟩ := hO.form
  subst hvo
  cases hN : newP c with
  | none =>
    have cN := fun {m : Nat} {u : World} {v1 v2 v3 v4 : Value} (a : ConfAt (Since m u) c v1 v2 v3 v4 u) => new_none_any a since_lt l1 l2 l3 l4 hN
    rw [hN] at cM cS
    simp only [Option.isSome_none, Bool.and_false] at cM cS
    clear hA L hN hAu hO
    go_enter Try.func14, Try.ntmps14
    go_wp2_with (first
          | (have X' := Q3; refine wpList_load_row rfl 26 (.tmp 2) rfl w.heap.size rfl 26 #[.int .i64 c.W, .int .i64 c.H, .int .i64 c.height, vb, vp, vr, vs, .int .i64 c.unit, .int .i64 c.accel, .int .i64 c.speed, .int .i64 c.turn, .int .i64 c.hoist, .int .i64 c.queue, .int .i64 c.resend, .int .i64 c.budget, .bool c.back] (0, 0) _ Q3.a Try.underlying26 rfl info_conf ?_)
          | (have X' := Q2; refine wpList_load_row rfl 26 (.tmp 2) rfl w.heap.size rfl 26 #[.int .i64 c.W, .int .i64 c.H, .int .i64 c.height, vb, vp, vr, vs, .int .i64 c.unit, .int .i64 c.accel, .int .i64 c.speed, .int .i64 c.turn, .int .i64 c.hoist, .int .i64 c.queue, .int .i64 c.resend, .int .i64 c.budget, .bool c.back] (0, 0) _ Q2.a Try.underlying26 rfl info_conf ?_)
          | (refine wpList_load_row rfl 26 (.tmp 2) rfl w.heap.size rfl 26 #[.int .i64 c.W, .int .i64 c.H, .int .i64 c.height, vb, vp, vr, vs, .int .i64 c.unit, .int .i64 c.accel, .int .i64 c.speed, .int .i64 c.turn, .int .i64 c.hoist, .int .i64 c.queue, .int .i64 c.resend, .int .i64 c.budget, .bool c.back] (0, 0) _ Q0.a Try.underlying26 rfl info_conf ?_)
          | (go_at_call 20; refine (cC _ Q0.below).mono ?_; rintro e w1 ⟨r1, rfl, ⟨v1, v2, v3, v4, rfl, A1⟩, b1⟩; have Q1 := Q0.go b1)
          | (go_at_call 52; refine (cN A1).mono ?_; rintro e w2 ⟨rfl, b2⟩; have Q2 := Q1.go b2)
          | (go_at_call 51; refine (cS _ Q2.below).mono ?_; rintro e w3 ⟨r3, rfl, rfl, b3⟩; have Q3 := Q2.go b3)
          | (go_at_call 21; refine (cM _ Q3.below).mono ?_; rintro e w4 ⟨r4, rfl, rfl, b4⟩; have Q4 := Q3.go b4)
          | (go_at_call 53; refine (awake8_any _).mono ?_; rintro e w9 ⟨r9, rfl, rfl, b9⟩))
    go_ret
    exact ⟨rfl, bcat Q4.below b9 (Nat.le_refl _)⟩
  | some G =>
    have hmy := (new_some hN).1.2.2.2.2.2.2.2.2.2.2.2
    have cN := fun {m : Nat} {u : World} {v1 v2 v3 v4 : Value} (a : ConfAt (Since m u) c v1 v2 v3 v4 u) => new_some_any a since_lt l1 l2 l3 l4 l5 hN
    rw [hN] at cM cS
    simp only [Option.isSome_some, Bool.and_true] at cM cS
    cases hs : smallN c
    · rw [hs] at cS
      clear hA L hN hAu hO
      go_enter Try.func14, Try.ntmps14
      go_wp2_with (first
            | (have X' := Q3; refine wpList_load_row rfl 26 (.tmp 2) rfl w.heap.size rfl 26 #[.int .i64 c.W, .int .i64 c.H, .int .i64 c.height, vb, vp, vr, vs, .int .i64 c.unit, .int .i64 c.accel, .int .i64 c.speed, .int .i64 c.turn, .int .i64 c.hoist, .int .i64 c.queue, .int .i64 c.resend, .int .i64 c.budget, .bool c.back] (0, 0) _ Q3.a Try.underlying26 rfl info_conf ?_)
            | (have X' := Q2; refine wpList_load_row rfl 26 (.tmp 2) rfl w.heap.size rfl 26 #[.int .i64 c.W, .int .i64 c.H, .int .i64 c.height, vb, vp, vr, vs, .int .i64 c.unit, .int .i64 c.accel, .int .i64 c.speed, .int .i64 c.turn, .int .i64 c.hoist, .int .i64 c.queue, .int .i64 c.resend, .int .i64 c.budget, .bool c.back] (0, 0) _ Q2.a Try.underlying26 rfl info_conf ?_)
            | (refine wpList_load_row rfl 26 (.tmp 2) rfl w.heap.size rfl 26 #[.int .i64 c.W, .int .i64 c.H, .int .i64 c.height, vb, vp, vr, vs, .int .i64 c.unit, .int .i64 c.accel, .int .i64 c.speed, .int .i64 c.turn, .int .i64 c.hoist, .int .i64 c.queue, .int .i64 c.resend, .int .i64 c.budget, .bool c.back] (0, 0) _ Q0.a Try.underlying26 rfl info_conf ?_)
            | (go_at_call 20; refine (cC _ Q0.below).mono ?_; rintro e w1 ⟨r1, rfl, ⟨v1, v2, v3, v4, rfl, A1⟩, b1⟩; have Q1 := Q0.go b1)
            | (go_at_call 52; refine (cN A1).mono ?_; rintro e w2 ⟨K, ps0, rfl, S2, hb2, hat2, hpm2, b2⟩; have Q2 := Q1.go b2)
            | (go_at_call 51; refine (cS _ Q2.below).mono ?_; rintro e w3 ⟨r3, rfl, rfl, b3⟩; have Q3 := Q2.go b3)
            | (go_at_call 21; refine (cM _ Q3.below).mono ?_; rintro e w4 ⟨r4, rfl, rfl, b4⟩; have Q4 := Q3.go b4)
            | (go_at_call 53; refine (awake8_any _).mono ?_; rintro e w9 ⟨r9, rfl, rfl, b9⟩))
      go_ret
      exact ⟨rfl, bcat Q4.below b9 (Nat.le_refl _)⟩
    · rw [hs] at cS
      have hOu := fun u (b : Below w.heap.size w u) => hO.go heldOp (fun _ h => h) b
      obtain ⟨n, hn⟩ : ∃ n, os.length = n := ⟨_, rfl⟩
      have Hn : Hid (os.length = n) := hn
      rw [hn] at hOu lo ⊢
      have HOu : Hid (∀ u, Below w.heap.size w u → ListAt 4 opEl (Old w) os (.slice ao n capo) u) := hOu
      have HMY : Hid (mayBeP (c.stacks.flatMap Prod.snd)) := hmy
      clear hA L hN hAu hO hn hOu hmy
      go_enter Try.func14, Try.ntmps14
      go_wp2_with (first
            | (have X' := S2; go_at_call 69; refine (bins_any (S2.go b3)).mono ?_; rintro e w5 ⟨v7, rfl, own7, b5⟩)
            | (first
            | (have X' := Q3; refine wpList_load_row rfl 26 (.tmp 2) rfl w.heap.size rfl 26 #[.int .i64 c.W, .int .i64 c.H, .int .i64 c.height, vb, vp, vr, vs, .int .i64 c.unit, .int .i64 c.accel, .int .i64 c.speed, .int .i64 c.turn, .int .i64 c.hoist, .int .i64 c.queue, .int .i64 c.resend, .int .i64 c.budget, .bool c.back] (0, 0) _ Q3.a Try.underlying26 rfl info_conf ?_)
            | (have X' := Q2; refine wpList_load_row rfl 26 (.tmp 2) rfl w.heap.size rfl 26 #[.int .i64 c.W, .int .i64 c.H, .int .i64 c.height, vb, vp, vr, vs, .int .i64 c.unit, .int .i64 c.accel, .int .i64 c.speed, .int .i64 c.turn, .int .i64 c.hoist, .int .i64 c.queue, .int .i64 c.resend, .int .i64 c.budget, .bool c.back] (0, 0) _ Q2.a Try.underlying26 rfl info_conf ?_)
            | (refine wpList_load_row rfl 26 (.tmp 2) rfl w.heap.size rfl 26 #[.int .i64 c.W, .int .i64 c.H, .int .i64 c.height, vb, vp, vr, vs, .int .i64 c.unit, .int .i64 c.accel, .int .i64 c.speed, .int .i64 c.turn, .int .i64 c.hoist, .int .i64 c.queue, .int .i64 c.resend, .int .i64 c.budget, .bool c.back] (0, 0) _ Q0.a Try.underlying26 rfl info_conf ?_)
            | (go_at_call 20; refine (cC _ Q0.below).mono ?_; rintro e w1 ⟨r1, rfl, ⟨v1, v2, v3, v4, rfl, A1⟩, b1⟩; have Q1 := Q0.go b1)
            | (go_at_call 52; refine (cN A1).mono ?_; rintro e w2 ⟨K, ps0, rfl, S2, hb2, hat2, hpm2, b2⟩; have Q2 := Q1.go b2)
            | (go_at_call 51; refine (cS _ Q2.below).mono ?_; rintro e w3 ⟨r3, rfl, rfl, b3⟩; have Q3 := Q2.go b3)
            | (go_at_call 21; refine (cM _ Q3.below).mono ?_; rintro e w4 ⟨r4, rfl, rfl, b4⟩; have Q4 := Q3.go b4)
            | (go_at_call 53; refine (awake8_any _).mono ?_; rintro e w9 ⟨r9, rfl, rfl, b9⟩)))
      obtain ⟨B0, hB0⟩ : ∃ B, allB ps0 (List.replicate c.robots.length 0) = B := ⟨_, rfl⟩
      have hfb := first_bins (n := c.robots.length) HMY.out hpm2
      rw [hB0] at hfb own7
      have HND : Hid (B0.Nodup) := hfb.1
      have HNZ : Hid (∀ z ∈ B0, z ≠ 0) := hfb.2
      have S3 := S2.go b3
      have HL5 : Hid (Lw w K c G.uses ps0 (List.replicate c.robots.length 0) v7 B0 w5) := ⟨S3.go b5, bcat Q3.below b5 (Nat.le_refl _), owns_less own7 Q3.below.size, fun b hb q => by have h1 := (own7.lt b hb).1; have h2 := S3.foot_lt b q; omega, hB0 ▸ List.Perm.refl _, Nat.le_trans Q1.below.size hb2⟩
      clear hB0 hfb own7 S3 S2 hat2 hpm2 hb2 Q0 Q1 Q2 Q3 A1 b1 b2 b3 b5 cC cM cS cN HMY
      go_loopw [8] (fun i wq => ∃ (k : Nat) (ps : List Pile) (ls : List Int), k ≤ n ∧ k ≤ 80 ∧ i = .int .i64 k ∧ Hid (Lw w K c G.uses ps ls v7 B0 wq)) (fun i _ => n - (intOf i).toNat)
      case atStart => exact ⟨0, _, _, Nat.zero_le _, by omega, rfl, HL5⟩
      case round =>
        clear HL5
        obtain ⟨k, ps, ls, hk, hk8, rfl, HL⟩ := hrel
        by_cases hlt : k < n ∧ k < 80
        · obtain ⟨hk1, hk2⟩ := hlt
          have hk' : k < os.length := by rw [Hn.out]; exact hk1
          obtain ⟨p, cs, cap', hv, _, hcs, hrd⟩ := (HOu.out wr HL.out.below).item hk'
          generalize os[k]'hk' = qo at *
          obtain ⟨kd, rb, x, y⟩ := qo
          obtain rfl := hcs
          rw [Hn.out] at hv
          obtain ⟨rfl, rfl⟩ : ao = some p ∧ capo = cap' := by injection hv with h1 h2 h3; exact ⟨h1, h3⟩
          clear hv
          simp only at hrd
          have bb : Below wr.heap.size wr (wr.alloc (.cells #[.int .i64 kd, .int .i64 rb, .int .i64 x, .int .i64 y] 78)) := below_new (Below.refl _ _) _
          have e1 : (wr.alloc (.cells #[.int .i64 kd, .int .i64 rb, .int .i64 x, .int .i64 y] 78)).heap[wr.heap.size]? = some (.cells #[.int .i64 kd, .int .i64 rb, .int .i64 x, .int .i64 y] 78 (0, 0)) := heap_alloc_new wr _
          have HL1 : Hid (Lw w K c G.uses ps ls v7 B0 (wr.alloc (.cells #[.int .i64 kd, .int .i64 rb, .int .i64 x, .int .i64 y] 78))) := HL.out.go bb
          have HB1 : Hid (Below wr.heap.size wr (wr.alloc (.cells #[.int .i64 kd, .int .i64 rb, .int .i64 x, .int .i64 y] 78))) := bb
          have hsz1 : wr.heap.size < (wr.alloc (.cells #[.int .i64 kd, .int .i64 rb, .int .i64 x, .int .i64 y] 78)).heap.size := lt_of_heap e1
          clear bb
          by_cases hkd : place kd 4 < 2
          · by_cases hok : ∃ j P, OkL c G.uses ps ls rb (x, y) j P
            · obtain ⟨j, P, okl⟩ := hok
              have HOK : Hid (OkL c G.uses ps ls rb (x, y) j P) := okl
              have hz0 : topP P.2.2 ≠ 0 := HNZ.out _ (HL.out.perm.mem_iff.1 (mem_bins okl.2.2.2.2.1 (top_mem okl.2.2.2.2.2)))
              have HZ : Hid (topP P.2.2 ≠ 0) := hz0
              obtain ⟨m, hm⟩ : ∃ m, P.2.2.length = m + 1 := ⟨P.2.2.length - 1, by have := List.length_pos_iff.2 okl.2.2.2.2.2; omega⟩
              have hm8 : m + 1 ≤ 8 := by have := HL.out.st.small _ _ okl.2.2.2.2.1; omega
              have Hm : Hid (P.2.2.length = m + 1) := hm
              have cH := fun u (q : StAt K c G.uses ps ls u) => height_yes q x y HOK.out.2.1 HOK.out.2.2.2.1 HOK.out.2.2.2.2.1
              have cLi := fun u (q : StAt K c G.uses ps ls u) => lift_ok q rb x y HOK.out.1 HOK.out.2.1 HOK.out.2.2.1 HOK.out.2.2.2.1 HOK.out.2.2.2.2.1 HOK.out.2.2.2.2.2
              have cH2 := fun (v' : Value) ls' u (q : StAt K c G.uses (ps.set j (P.1, v', P.2.2.dropLast)) ls' u) => height_yes q x y HOK.out.2.1 HOK.out.2.2.2.1 (p := (P.1, v', P.2.2.dropLast)) (by rw [List.getElem?_set, if_pos rfl, if_pos (List.getElem?_eq_some_iff.1 HOK.out.2.2.2.2.1).1])
              have cLo := fun ps' u (q : StAt K c G.uses ps' (ls.set rb.toNat (topP P.2.2)) u) => load_any q rb
              have HPm : Hid (∀ v', (allB (ps.set j (P.1, v', P.2.2.dropLast)) (ls.set rb.toNat (topP P.2.2))).Perm (allB ps ls)) := fun v' => lift_perm okl hz0 v'
              rw [hm] at cH
              simp only [List.length_dropLast, hm, Nat.add_sub_cancel] at cH2
              rw [(load_there okl.1).2.2] at cLo
              generalize topP P.2.2 = tp at *
              have htp : (tp == 0) = false := by rw [beq_eq_false_iff_ne]; exact hz0
              clear okl hz0 hm HZ
              go_wp2_with (first
                    | (refine wpList_load_at rfl 78 (.tmp 54) rfl (p.add (k * 4)) rfl #[.int .i64 kd, .int .i64 rb, .int .i64 x, .int .i64 y] hrd (aggOp _) infoOp ?_)
                    | (go_at_call 47; refine (place_any kd 4 _ (by decide) (by decide)).mono ?_; rintro e wp ⟨rfl, hwp⟩; rw [hwp]; clear hwp wp)
                    | (have X' := S3; go_at_call 59; refine (cH2 _ _ _ S3).mono ?_; rintro e w4 ⟨r4, rfl, rfl, b4⟩; have HL4 : Hid _ := HL3.out.go b4; have e4 := (b4.block _ (lt_of_heap e3)).trans e3; have e40 := cell_of e4 0; have e41 := cell_of e4 1; have e42 := cell_of e4 2; have e43 := cell_of e4 3; clear S3)
                    | (have X' := e1; go_at_call 59; refine (cH _ HL1.out.st).mono ?_; rintro e w2 ⟨r2, rfl, rfl, b2⟩; have HL2 : Hid _ := HL1.out.go b2; have e2 := (b2.block _ (lt_of_heap e1)).trans e1; have e20 := cell_of e2 0; have e21 := cell_of e2 1; have e22 := cell_of e2 2; have e23 := cell_of e2 3; clear e1)
                    | (go_at_call 55; refine (cLi _ HL2.out.st).mono ?_; rintro e w3 ⟨v3, rfl, S3, T3⟩; have HL3 : Hid _ := HL2.out.turn T3 S3 (HPm.out v3); have e3 := (HL.out.keep (HB1.out.trans (b2.mono (Nat.le_of_lt hsz1))) T3 (Nat.le_refl _) (lt_of_heap e2)).trans e2; have e30 := cell_of e3 0; have e31 := cell_of e3 1; have e32 := cell_of e3 2; have e33 := cell_of e3 3; clear T3)
                    | (go_at_call 70; refine (cLo _ _ HL4.out.st).mono ?_; rintro e w5 ⟨r5, rfl, rfl, b5⟩; have HL5 : Hid _ := HL4.out.go b5)
                    | (have X' := own8; go_at_call 63; refine (same_was HL8.out own8 (by have := allB_len HL8.out.st; omega)).mono ?_; rintro e w9 ⟨r9, rfl, rfl, b9⟩; have HL9 : Hid _ := HL8.out.go b9)
                    | (have X' := HL5; go_at_call 69; refine (bins_any HL5.out.st).mono ?_; rintro e w8 ⟨v8, rfl, own8, b8⟩; have HL8 : Hid _ := HL5.out.go b8))
              go_roundw
              case rel => exact ⟨k + 1, _, _, by omega, by omega, by go_num, HL9⟩
              case measure => simp [intOf]; omega
            · have cH := fun u (q : StAt K c G.uses ps ls u) => height_gen q x y
              have cLi := fun u (q : StAt K c G.uses ps ls u) => lift_no q rb x y hok
              go_wp2_with (first
                    | (refine wpList_load_at rfl 78 (.tmp 54) rfl (p.add (k * 4)) rfl #[.int .i64 kd, .int .i64 rb, .int .i64 x, .int .i64 y] hrd (aggOp _) infoOp ?_)
                    | (go_at_call 47; refine (place_any kd 4 _ (by decide) (by decide)).mono ?_; rintro e wp ⟨rfl, hwp⟩; rw [hwp]; clear hwp wp)
                    | (have X' := e1; go_at_call 59; refine (cH _ HL1.out.st).mono ?_; rintro e w2 ⟨z2, rfl, b2⟩; have HL2 : Hid _ := HL1.out.go b2; have e2 := (b2.block _ (lt_of_heap e1)).trans e1; have e20 := cell_of e2 0; have e21 := cell_of e2 1; have e22 := cell_of e2 2; have e23 := cell_of e2 3; clear e1)
                    | (go_at_call 55; refine (cLi _ HL2.out.st).mono ?_; rintro e w3 ⟨cd, rfl, hcd, b3⟩; have HL3 : Hid _ := HL2.out.go b3; have hcd2 : (cd == 0) = false := (by rw [beq_eq_false_iff_ne]; exact hcd))
                    | (have X' := own8; go_at_call 63; refine (same_was HL8.out own8 (by have := allB_len HL8.out.st; omega)).mono ?_; rintro e w9 ⟨r9, rfl, rfl, b9⟩; have HL9 : Hid _ := HL8.out.go b9)
                    | (have X' := HL3; go_at_call 69; refine (bins_any HL3.out.st).mono ?_; rintro e w8 ⟨v8, rfl, own8, b8⟩; have HL8 : Hid _ := HL3.out.go b8))
              go_roundw
              case rel => exact ⟨k + 1, _, _, by omega, by omega, by go_num, HL9⟩
              case measure => simp [intOf]; omega
          · by_cases hok : ∃ j P, OkD c G.uses ps ls rb (x, y) j P
            · obtain ⟨j, P, okd⟩ := hok
              have HOK : Hid (OkD c G.uses ps ls rb (x, y) j P) := okd
              have cLo := fun u (q : StAt K c G.uses ps ls u) => load_any q rb
              have cD := fun u (q : StAt K c G.uses ps ls u) => drop_ok q rb x y HOK.out.1 HOK.out.2.1 HOK.out.2.2.1 HOK.out.2.2.2.1 HOK.out.2.2.2.2.1 HOK.out.2.2.2.2.2
              have hl0 : loadP ls rb ≠ 0 := okd.2.2.1
              have cT := fun (v' : Value) ls' u (q : StAt K c G.uses (ps.set j (P.1, v', P.2.2 ++ [loadP ls rb])) ls' u) => top_yes q x y HOK.out.2.1 HOK.out.2.2.2.1 (p := (P.1, v', P.2.2 ++ [loadP ls rb])) (by rw [List.getElem?_set, if_pos rfl, if_pos (List.getElem?_eq_some_iff.1 HOK.out.2.2.2.2.1).1])
              have hto : topP (P.2.2 ++ [loadP ls rb]) = loadP ls rb := by unfold topP; rw [List.length_append, List.length_singleton, Nat.add_sub_cancel, List.getD_eq_getElem?_getD, List.getElem?_append_right (Nat.le_refl _), Nat.sub_self]; rfl
              have cL2 := fun ps' u (q : StAt K c G.uses ps' (ls.set rb.toNat 0) u) => load_any q rb
              have HPm : Hid (∀ v', (allB (ps.set j (P.1, v', P.2.2 ++ [loadP ls rb])) (ls.set rb.toNat 0)).Perm (allB ps ls)) := fun v' => drop_perm okd v'
              rw [(load_there okd.1).2.2] at cL2
              simp only [hto] at cT
              generalize loadP ls rb = lv at *
              have hlv : (lv == 0) = false := by rw [beq_eq_false_iff_ne]; exact hl0
              clear okd hl0 hto
              go_wp2_with (first
                    | (refine wpList_load_at rfl 78 (.tmp 54) rfl (p.add (k * 4)) rfl #[.int .i64 kd, .int .i64 rb, .int .i64 x, .int .i64 y] hrd (aggOp _) infoOp ?_)
                    | (go_at_call 47; refine (place_any kd 4 _ (by decide) (by decide)).mono ?_; rintro e wp ⟨rfl, hwp⟩; rw [hwp]; clear hwp wp)
                    | (have X' := S4; go_at_call 70; refine (cL2 _ _ S5).mono ?_; rintro e w6 ⟨r6, rfl, rfl, b6⟩; have HL6 : Hid _ := HL5.out.go b6)
                    | (have X' := e1; go_at_call 70; refine (cLo _ HL1.out.st).mono ?_; rintro e w2 ⟨r2, rfl, rfl, b2⟩; have HL2 : Hid _ := HL1.out.go b2; have e2 := (b2.block _ (lt_of_heap e1)).trans e1; have e20 := cell_of e2 0; have e21 := cell_of e2 1; have e22 := cell_of e2 2; have e23 := cell_of e2 3; clear e1)
                    | (go_at_call 57; refine (cD _ HL2.out.st).mono ?_; rintro e w4 ⟨v4, rfl, S4, T4⟩; have HL4 : Hid _ := HL2.out.turn T4 S4 (HPm.out v4); have e4 := (HL.out.keep (HB1.out.trans (b2.mono (Nat.le_of_lt hsz1))) T4 (Nat.le_refl _) (lt_of_heap e2)).trans e2; have e40 := cell_of e4 0; have e41 := cell_of e4 1; have e42 := cell_of e4 2; have e43 := cell_of e4 3; clear T4)
                    | (go_at_call 61; refine (cT _ _ _ S4).mono ?_; rintro e w5 ⟨r5, rfl, rfl, b5⟩; have S5 := S4.go b5; have HL5 : Hid _ := HL4.out.go b5; have e5 := (b5.block _ (lt_of_heap e4)).trans e4; have e50 := cell_of e5 0; have e51 := cell_of e5 1; have e52 := cell_of e5 2; have e53 := cell_of e5 3)
                    | (have X' := own8; go_at_call 63; refine (same_was HL8.out own8 (by have := allB_len HL8.out.st; omega)).mono ?_; rintro e w9 ⟨r9, rfl, rfl, b9⟩; have HL9 : Hid _ := HL8.out.go b9)
                    | (have X' := HL6; go_at_call 69; refine (bins_any HL6.out.st).mono ?_; rintro e w8 ⟨v8, rfl, own8, b8⟩; have HL8 : Hid _ := HL6.out.go b8))
              go_roundw
              case rel => exact ⟨k + 1, _, _, by omega, by omega, by go_num, HL9⟩
              case measure => simp [intOf]; omega
            · have cLo := fun u (q : StAt K c G.uses ps ls u) => load_any q rb
              have cD := fun u (q : StAt K c G.uses ps ls u) => drop_no q rb x y hok
              generalize loadP ls rb = lv at cLo
              go_wp2_with (first
                    | (refine wpList_load_at rfl 78 (.tmp 54) rfl (p.add (k * 4)) rfl #[.int .i64 kd, .int .i64 rb, .int .i64 x, .int .i64 y] hrd (aggOp _) infoOp ?_)
                    | (go_at_call 47; refine (place_any kd 4 _ (by decide) (by decide)).mono ?_; rintro e wp ⟨rfl, hwp⟩; rw [hwp]; clear hwp wp)
                    | (have X' := e1; go_at_call 70; refine (cLo _ HL1.out.st).mono ?_; rintro e w2 ⟨r2, rfl, rfl, b2⟩; have HL2 : Hid _ := HL1.out.go b2; have e2 := (b2.block _ (lt_of_heap e1)).trans e1; have e20 := cell_of e2 0; have e21 := cell_of e2 1; have e22 := cell_of e2 2; have e23 := cell_of e2 3; clear e1)
                    | (go_at_call 57; refine (cD _ HL2.out.st).mono ?_; rintro e w3 ⟨cd, rfl, hcd, b3⟩; have HL3 : Hid _ := HL2.out.go b3; have hcd2 : (cd == 0) = false := (by rw [beq_eq_false_iff_ne]; exact hcd))
                    | (have X' := own8; go_at_call 63; refine (same_was HL8.out own8 (by have := allB_len HL8.out.st; omega)).mono ?_; rintro e w9 ⟨r9, rfl, rfl, b9⟩; have HL9 : Hid _ := HL8.out.go b9)
                    | (have X' := HL3; go_at_call 69; refine (bins_any HL3.out.st).mono ?_; rintro e w8 ⟨v8, rfl, own8, b8⟩; have HL8 : Hid _ := HL3.out.go b8))
              go_roundw
              case rel => exact ⟨k + 1, _, _, by omega, by omega, by go_num, HL9⟩
              case measure => simp [intOf]; omega
        · have hL := HL.out
          have hown := hL.own
          have hbel := hL.below
          obtain ⟨a7, cap7, hv7, _⟩ := own_form hown
          subst hv7
          obtain ⟨N7, hN7⟩ : ∃ N, B0.length = N := ⟨_, rfl⟩
          have HN7 : Hid (B0.length = N7) := hN7
          have hNs : N7 ≤ 4096 := by rw [← hN7, ← hL.perm.length_eq]; exact allB_len hL.st
          rw [hN7] at hown
          rw [hN7]
          have HOw : Hid (wr.ownsRow w.heap.size 3 1 (.slice a7 N7 cap7) N7 (rowL intL (sortedI B0))) := hown
          have HSl : Hid ((sortedI B0).length = N7) := by show (sortedI B0).length = N7; rw [(sorted_perm B0).length_eq, HN7.out]
          obtain ⟨IW, hIW⟩ : ∃ I : World → Prop, I = Below wr.heap.size wr := ⟨_, rfl⟩
          have kW : ∀ u, IW u → Below wr.heap.size wr u := fun u hu => by rw [hIW] at hu; exact hu
          have HW0 : Hid (IW wr) := by show IW wr; rw [hIW]; exact Below.refl _ _
          have HBl : Hid (Below w.heap.size w wr) := hbel
          clear hL hown hN7 HL HNZ
          by_cases hkn : k < n
          · have hkn2 : (k : Int) < (n : Int) := by omega
            have hk80 : ¬ ((k : Int) < 80) := by omega
            go_wp2
            go_loopw [14] (fun i wq => ∃ j : Nat, (j + 1 ≤ N7 ∨ j = 0) ∧ i = .int .i64 ((j : Int) + 1) ∧ Hid (IW wq)) (fun i _ => N7 + 1 - (intOf i).toNat)
            case atStart => exact ⟨0, Or.inr rfl, rfl, HW0⟩
            case round =>
              clear HW0
              obtain ⟨j, hj, rfl, HI⟩ := hrel
              by_cases hjn : j + 1 < N7
              · obtain ⟨gb, rfl, hcl⟩ := own_ints HOw.out (by omega) HSl.out
                have hst := strict HND.out (i := j) (by rw [HN7.out]; exact hjn)
                have r1 := hcl (j + 1) hjn
                have r2 := hcl j (by omega)
                generalize (sortedI B0).getD (j + 1) 0 = zb at *
                generalize (sortedI B0).getD j 0 = za at *
                clear hcl
                have hjn2 : (j : Int) + 1 < (N7 : Int) := by omega
                have hjn3 : j < N7 := by omega
                go_wp2
                have hSd : IW wr.drew := by
                  have := HI.out
                  rw [hIW] at this ⊢
                  exact bcat this (Below.refl _ _).drew (Nat.le_refl _)
                have z1 : ∀ u, IW u → u.cell? ⟨gb, j + 1, none⟩ = some (.int .i64 zb) := fun u hu => cell_below r1 (kW u hu)
                have z2 : ∀ u, IW u → u.cell? ⟨gb, j, none⟩ = some (.int .i64 za) := fun u hu => cell_below r2 (kW u hu)
                clear r1 r2
                refine start_held (S := IW) 10 rfl (by kernel_rfl) (hSd) ?_
                simp only [Array.replicate_succ, Array.replicate_zero, List.push_toArray, List.nil_append, List.cons_append]
                refine take_held 0 (by assumption) rfl (by kernel_rfl) (by kernel_rfl) (by kernel_rfl) (fun _ _ _ h => h) (by kernel_rfl) (v := ?v0) ?y0 ?r0
                case y0 => (intro u hu; go_simp; try rfl)
                simp only [Act.put, List.setIfInBounds_toArray, List.set_cons_zero, List.set_cons_succ]
                refine take_held 1 (by assumption) rfl (by kernel_rfl) (by kernel_rfl) (by kernel_rfl) (fun _ _ _ h => h) (by kernel_rfl) (v := ?v1) ?y1 ?r1
                case y1 => (intro u hu; go_simp; try rfl)
                simp only [Act.put, List.setIfInBounds_toArray, List.set_cons_zero, List.set_cons_succ]
                refine take_held 2 (by assumption) rfl (by kernel_rfl) (by kernel_rfl) (by kernel_rfl) (fun _ _ _ h => h) (by kernel_rfl) (v := ?v2) ?y2 ?r2
                case y2 => (intro u hu; go_simp; try rfl)
                simp only [Act.put, List.setIfInBounds_toArray, List.set_cons_zero, List.set_cons_succ]
                refine take_held 3 (by assumption) rfl (by kernel_rfl) (by kernel_rfl) (by kernel_rfl) (fun _ _ _ h => h) (by kernel_rfl) (v := ?v3) ?y3 ?r3
                case y3 => (intro u hu; have zz0 := z1 u hu; go_simp; try rfl)
                simp only [Act.put, List.setIfInBounds_toArray, List.set_cons_zero, List.set_cons_succ]
                refine take_held 4 (by assumption) rfl (by kernel_rfl) (by kernel_rfl) (by kernel_rfl) (fun _ _ _ h => h) (by kernel_rfl) (v := ?v4) ?y4 ?r4
                case y4 => (intro u hu; go_simp; try rfl)
                simp only [Act.put, List.setIfInBounds_toArray, List.set_cons_zero, List.set_cons_succ]
                refine take_held 5 (by assumption) rfl (by kernel_rfl) (by kernel_rfl) (by kernel_rfl) (fun _ _ _ h => h) (by kernel_rfl) (v := ?v5) ?y5 ?r5
                case y5 => (intro u hu; go_simp; try rfl)
                simp only [Act.put, List.setIfInBounds_toArray, List.set_cons_zero, List.set_cons_succ]
                refine take_held 6 (by assumption) rfl (by kernel_rfl) (by kernel_rfl) (by kernel_rfl) (fun _ _ _ h => h) (by kernel_rfl) (v := .int .i64 (j : Int)) ?y6 ?r6
                case y6 => (intro u hu; have hw : IntKind.i64.wrap (j : Int) = (j : Int) := (by rw [IntKind.wrap_i64]; omega); go_simp; try rw [hw]; try rfl)
                simp only [Act.put, List.setIfInBounds_toArray, List.set_cons_zero, List.set_cons_succ]
                refine take_held 7 (by assumption) rfl (by kernel_rfl) (by kernel_rfl) (by kernel_rfl) (fun _ _ _ h => h) (by kernel_rfl) (v := ?v7) ?y7 ?r7
                case y7 => (intro u hu; go_simp; try rfl)
                simp only [Act.put, List.setIfInBounds_toArray, List.set_cons_zero, List.set_cons_succ]
                refine take_held 8 (by assumption) rfl (by kernel_rfl) (by kernel_rfl) (by kernel_rfl) (fun _ _ _ h => h) (by kernel_rfl) (v := ?v8) ?y8 ?r8
                case y8 => (intro u hu; have zz0 := z2 u hu; go_simp; try rfl)
                simp only [Act.put, List.setIfInBounds_toArray, List.set_cons_zero, List.set_cons_succ]
                refine take_held 9 (by assumption) rfl (by kernel_rfl) (by kernel_rfl) (by kernel_rfl) (fun _ _ _ h => h) (by kernel_rfl) (v := .bool false) ?y9 ?r9
                case y9 => (intro u hu; go_simp; try simp; try omega)
                simp only [Act.put, List.setIfInBounds_toArray, List.set_cons_zero, List.set_cons_succ]
                refine done_held (by kernel_rfl) ?_ _
                have HI9 : Hid (IW wr.drew) := hSd
                go_wp2
                go_roundw
                case rel => exact ⟨j + 1, Or.inl (by omega), by go_num, HI9⟩
                case measure => simp [intOf]; omega
              · have hjn2 : ¬ ((j : Int) + 1 < (N7 : Int)) := by omega
                have bF := bcat HBl.out (kW _ HI.out) (Nat.le_refl _)
                go_wp2_with (go_at_call 53; refine (awake8_any _).mono ?_; rintro e w9 ⟨r9, rfl, rfl, b9⟩)
                go_ret
                exact ⟨rfl, bcat bF b9 (Nat.le_refl _)⟩
          · have hkn2 : ¬ ((k : Int) < (n : Int)) := by omega
            go_wp2
            go_loopw [14] (fun i wq => ∃ j : Nat, (j + 1 ≤ N7 ∨ j = 0) ∧ i = .int .i64 ((j : Int) + 1) ∧ Hid (IW wq)) (fun i _ => N7 + 1 - (intOf i).toNat)
            case atStart => exact ⟨0, Or.inr rfl, rfl, HW0⟩
            case round =>
              clear HW0
              obtain ⟨j, hj, rfl, HI⟩ := hrel
              by_cases hjn : j + 1 < N7
              · obtain ⟨gb, rfl, hcl⟩ := own_ints HOw.out (by omega) HSl.out
                have hst := strict HND.out (i := j) (by rw [HN7.out]; exact hjn)
                have r1 := hcl (j + 1) hjn
                have r2 := hcl j (by omega)
                generalize (sortedI B0).getD (j + 1) 0 = zb at *
                generalize (sortedI B0).getD j 0 = za at *
                clear hcl
                have hjn2 : (j : Int) + 1 < (N7 : Int) := by omega
                have hjn3 : j < N7 := by omega
                go_wp2
                have hSd : IW wr.drew := by
                  have := HI.out
                  rw [hIW] at this ⊢
                  exact bcat this (Below.refl _ _).drew (Nat.le_refl _)
                have z1 : ∀ u, IW u → u.cell? ⟨gb, j + 1, none⟩ = some (.int .i64 zb) := fun u hu => cell_below r1 (kW u hu)
                have z2 : ∀ u, IW u → u.cell? ⟨gb, j, none⟩ = some (.int .i64 za) := fun u hu => cell_below r2 (kW u hu)
                clear r1 r2
                refine start_held (S := IW) 10 rfl (by kernel_rfl) (hSd) ?_
                simp only [Array.replicate_succ, Array.replicate_zero, List.push_toArray, List.nil_append, List.cons_append]
                refine take_held 0 (by assumption) rfl (by kernel_rfl) (by kernel_rfl) (by kernel_rfl) (fun _ _ _ h => h) (by kernel_rfl) (v := ?v10) ?y10 ?r10
                case y10 => (intro u hu; go_simp; try rfl)
                simp only [Act.put, List.setIfInBounds_toArray, List.set_cons_zero, List.set_cons_succ]
                refine take_held 1 (by assumption) rfl (by kernel_rfl) (by kernel_rfl) (by kernel_rfl) (fun _ _ _ h => h) (by kernel_rfl) (v := ?v11) ?y11 ?r11
                case y11 => (intro u hu; go_simp; try rfl)
                simp only [Act.put, List.setIfInBounds_toArray, List.set_cons_zero, List.set_cons_succ]
                refine take_held 2 (by assumption) rfl (by kernel_rfl) (by kernel_rfl) (by kernel_rfl) (fun _ _ _ h => h) (by kernel_rfl) (v := ?v12) ?y12 ?r12
                case y12 => (intro u hu; go_simp; try rfl)
                simp only [Act.put, List.setIfInBounds_toArray, List.set_cons_zero, List.set_cons_succ]
                refine take_held 3 (by assumption) rfl (by kernel_rfl) (by kernel_rfl) (by kernel_rfl) (fun _ _ _ h => h) (by kernel_rfl) (v := ?v13) ?y13 ?r13
                case y13 => (intro u hu; have zz0 := z1 u hu; go_simp; try rfl)
                simp only [Act.put, List.setIfInBounds_toArray, List.set_cons_zero, List.set_cons_succ]
                refine take_held 4 (by assumption) rfl (by kernel_rfl) (by kernel_rfl) (by kernel_rfl) (fun _ _ _ h => h) (by kernel_rfl) (v := ?v14) ?y14 ?r14
                case y14 => (intro u hu; go_simp; try rfl)
                simp only [Act.put, List.setIfInBounds_toArray, List.set_cons_zero, List.set_cons_succ]
                refine take_held 5 (by assumption) rfl (by kernel_rfl) (by kernel_rfl) (by kernel_rfl) (fun _ _ _ h => h) (by kernel_rfl) (v := ?v15) ?y15 ?r15
                case y15 => (intro u hu; go_simp; try rfl)
                simp only [Act.put, List.setIfInBounds_toArray, List.set_cons_zero, List.set_cons_succ]
                refine take_held 6 (by assumption) rfl (by kernel_rfl) (by kernel_rfl) (by kernel_rfl) (fun _ _ _ h => h) (by kernel_rfl) (v := .int .i64 (j : Int)) ?y16 ?r16
                case y16 => (intro u hu; have hw : IntKind.i64.wrap (j : Int) = (j : Int) := (by rw [IntKind.wrap_i64]; omega); go_simp; try rw [hw]; try rfl)
                simp only [Act.put, List.setIfInBounds_toArray, List.set_cons_zero, List.set_cons_succ]
                refine take_held 7 (by assumption) rfl (by kernel_rfl) (by kernel_rfl) (by kernel_rfl) (fun _ _ _ h => h) (by kernel_rfl) (v := ?v17) ?y17 ?r17
                case y17 => (intro u hu; go_simp; try rfl)
                simp only [Act.put, List.setIfInBounds_toArray, List.set_cons_zero, List.set_cons_succ]
                refine take_held 8 (by assumption) rfl (by kernel_rfl) (by kernel_rfl) (by kernel_rfl) (fun _ _ _ h => h) (by kernel_rfl) (v := ?v18) ?y18 ?r18
                case y18 => (intro u hu; have zz0 := z2 u hu; go_simp; try rfl)
                simp only [Act.put, List.setIfInBounds_toArray, List.set_cons_zero, List.set_cons_succ]
                refine take_held 9 (by assumption) rfl (by kernel_rfl) (by kernel_rfl) (by kernel_rfl) (fun _ _ _ h => h) (by kernel_rfl) (v := .bool false) ?y19 ?r19
                case y19 => (intro u hu; go_simp; try simp; try omega)
                simp only [Act.put, List.setIfInBounds_toArray, List.set_cons_zero, List.set_cons_succ]
                refine done_held (by kernel_rfl) ?_ _
                have HI9 : Hid (IW wr.drew) := hSd
                go_wp2
                go_roundw
                case rel => exact ⟨j + 1, Or.inl (by omega), by go_num, HI9⟩
                case measure => simp [intOf]; omega
              · have hjn2 : ¬ ((j : Int) + 1 < (N7 : Int)) := by omega
                have bF := bcat HBl.out (kW _ HI.out) (Nat.le_refl _)
                go_wp2_with (go_at_call 53; refine (awake8_any _).mono ?_; rintro e w9 ⟨r9, rfl, rfl, b9⟩)
                go_ret
                exact ⟨rfl, bcat bF b9 (Nat.le_refl _)⟩
end Go.Proofs.Ytdaideiagebmdaa.Stk
