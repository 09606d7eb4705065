/-
  The chapter's own Jobs where no job comes of it: no port, no such bin, a cell that is touched.
-/
import Derived.Test.YtgnpmjlliolmoaaDigPlain4
import Derived.Test.YtgnpmjlliolmoaaDgI
import Derived.Deep.DeepCutAuto
import Derived.Deep.CutRange
namespace Go.Proofs.Ytgnpmjlliolmoaa.Dig
set_option linter.unusedVariables false
set_option linter.unusedSimpArgs false
open Go Go.RowKit Go.Shelf Go.Proofs Go.Proofs.Ytgnpmjlliolmoaa.Grid Go.Proofs.Ytgnpmjlliolmoaa.Srt
attribute [local go_sem] Oper.semAt_some

/- What the loop over the cells finds: the number of the first with the bin (or of all), and the bin's place there. -/
structure Fd (stks : List Stk) (L : List Cell) (bin : Int) (n0 j : Nat) : Prop where
  le : n0 ≤ L.length
  no : ∀ k, k < n0 → bin ∉ pileOf stks (L.getD k (0, 0))
  here : n0 < L.length → (pileOf stks (L.getD n0 (0, 0)))[j]? = some bin
  first : n0 < L.length → ∀ k, k < j → (pileOf stks (L.getD n0 (0, 0)))[k]? ≠ some bin
theorem fd_none {stks : List Stk} {L : List Cell} {bin : Int} (h : ∀ x ∈ L, bin ∉ pileOf stks x) : Fd stks L bin L.length 0 :=
  ⟨Nat.le_refl _, fun k hk => by rw [getD_at hk]; exact h _ (List.getElem_mem hk), fun h => absurd h (Nat.lt_irrefl _), fun h => absurd h (Nat.lt_irrefl _)⟩
theorem fd_at {stks : List Stk} {L : List Cell} {bin : Int} {x : Cell} {j : Nat} (h : At stks L bin x j) : ∃ n0, n0 < L.length ∧ L.getD n0 (0, 0) = x ∧ Fd stks L bin n0 j := by
  obtain ⟨i, hi, e, hno⟩ := at_num h
  have g : L.getD i (0, 0) = x := by rw [getD_at hi]; exact e
  refine ⟨i, hi, g, ⟨Nat.le_of_lt hi, fun k hk => ?_, fun _ => by rw [g]; exact h.here, fun _ k hk => by rw [g]; exact h.first k hk⟩⟩
  rw [getD_at (show k < L.length by omega)]
  exact hno k hk
theorem fd_ex (stks : List Stk) (L : List Cell) (bin : Int) : ∃ n0 j, Fd stks L bin n0 j := by
  refine ⟨L.findIdx (fun x => decide (bin ∈ pileOf stks x)), (pileOf stks (L.getD (L.findIdx (fun x => decide (bin ∈ pileOf stks x))) (0, 0))).findIdx (fun z => decide (z = bin)), List.findIdx_le_length, fun k hk => ?_, fun h => ?_, fun h k hk => ?_⟩
  · have hl : k < L.length := Nat.lt_of_lt_of_le hk List.findIdx_le_length
    have := List.not_of_lt_findIdx hk
    rw [getD_at hl]
    exact of_decide_eq_false (by simpa using this)
  · rw [getD_at h]
    have hm : bin ∈ pileOf stks (L[L.findIdx (fun x => decide (bin ∈ pileOf stks x))]'h) := of_decide_eq_true (List.findIdx_getElem (w := h))
    have hl := List.findIdx_lt_length_of_exists (p := fun z => decide (z = bin)) ⟨bin, hm, decide_eq_true rfl⟩
    rw [List.getElem?_eq_getElem hl]
    exact congrArg some (of_decide_eq_true (List.findIdx_getElem (w := hl)))
  · intro e
    obtain ⟨hl, e2⟩ := List.getElem?_eq_some_iff.1 e
    have := List.not_of_lt_findIdx hk
    exact of_decide_eq_false this e2
set_option maxRecDepth 100000 in
set_option maxHeartbeats 4000000 in
theorem refJobs_early {F : Nat → Prop} {c : Conf} {v1 v2 v3 v4 : Value} {w : World} (hA : ConfAt F c v1 v2 v3 v4 w) (hF : ∀ b, F b → b < w.heap.size) (l1 : c.blocked.length ≤ 8796093022208) (l2 : c.ports.length ≤ 8796093022208) (l3 : c.robots.length ≤ 5864062014805) (l4 : c.stacks.length ≤ 3518437208880) (l5 : ∀ s ∈ c.stacks, s.2.length ≤ 17592186044416) {G : GS} (hN : newP c = some G)
    (Fs : Nat → Prop) (stks : List Stk) (sa : Option Addr) (sn sc : Nat) (hS : ListAt 3 stackEl Fs stks (.slice sa sn sc) w) (hFs : ∀ b, Fs b → b < w.heap.size) (hsn : sn ≤ 1000000) (hp : ∀ x, (pileOf stks x).length ≤ 17592186044416)
    (Ft : Nat → Prop) (tl : List Cell) (ta : Option Addr) (tn tc : Nat) (hT : ListAt 2 cellEl Ft tl (.slice ta tn tc) w) (hFt : ∀ b, Ft b → b < w.heap.size) (htn : tn ≤ 1000000) (bin : Int) (port : Cell) (n0 j : Nat) (hFd : Fd stks (stkUpTo c.W G.uses G.uses.length) bin n0 j)
    (hEarly : portP c.ports port 0 < 0 ∨ n0 = (stkUpTo c.W G.uses G.uses.length).length ∨ (stkUpTo c.W G.uses G.uses.length).getD n0 (0, 0) ∈ tl) (ee : Int)
    (hEe : (portP c.ports port 0 < 0 → ee = 10) ∧ (¬ portP c.ports port 0 < 0 → n0 = (stkUpTo c.W G.uses G.uses.length).length → ee = 9) ∧ (¬ portP c.ports port 0 < 0 → n0 ≠ (stkUpTo c.W G.uses G.uses.length).length → ee = 8)) :
    Calls Try.prog 11 #[.agg #[.int .i64 c.W, .int .i64 c.H, .int .i64 c.height, v1, v2, v3, v4, .int .i64 c.unit, .int .i64 c.accel, .int .i64 c.speed, .int .i64 c.turn, .int .i64 c.hoist, .int .i64 c.queue, .int .i64 c.resend, .int .i64 c.budget, .bool c.back], .slice sa sn sc, .slice ta tn tc, .int .i64 bin, .agg #[.int .i64 port.1, .int .i64 port.2]] w fun e w' => ∃ r, e = .returned r ∧ r = .tuple #[.slice none 0 0, .int .i64 ee] ∧ Below w.heap.size w w' := by
  obtain ⟨w2, hw2⟩ : ∃ w2, w2 = (w.alloc (.cells #[.int .i64 c.W, .int .i64 c.H, .int .i64 c.height, v1, v2, v3, v4, .int .i64 c.unit, .int .i64 c.accel, .int .i64 c.speed, .int .i64 c.turn, .int .i64 c.hoist, .int .i64 c.queue, .int .i64 c.resend, .int .i64 c.budget, .bool c.back] 26)).alloc (.cells #[.int .i64 port.1, .int .i64 port.2] 28) := ⟨_, rfl⟩
  have b2 : Below w.heap.size w w2 := by rw [hw2]; exact below_two _ _ _
  have hc2 : w2.heap[w.heap.size]? = some (.cells #[.int .i64 c.W, .int .i64 c.H, .int .i64 c.height, v1, v2, v3, v4, .int .i64 c.unit, .int .i64 c.accel, .int .i64 c.speed, .int .i64 c.turn, .int .i64 c.hoist, .int .i64 c.queue, .int .i64 c.resend, .int .i64 c.budget, .bool c.back] 26 (0, 0)) := by rw [hw2]; exact (alloc_old _ _ _ (by simp)).trans (heap_alloc_new w _)
  have hp2 : w2.heap[w.heap.size + 1]? = some (.cells #[.int .i64 port.1, .int .i64 port.2] 28 (0, 0)) := by rw [hw2]; exact heap_new2 _ _ _
  have cP := portR_any F c v1 v2 v3 v4 port.1 port.2 w2 (hA.go hF b2) (fun b hb => Nat.lt_of_lt_of_le (hF b hb) b2.size) (by omega)
  have HA : Hid (∀ u, Below w.heap.size w u → ConfAt (Old u) c v1 v2 v3 v4 u) := fun u bu => by
    have q := hA.go hF bu
    have m : ∀ g, F g → Old u g := fun g hg => Nat.lt_of_lt_of_le (hF g hg) bu.size
    exact ⟨q.b.mono heldCell m, q.p.mono heldCell m, q.r.mono heldPose m, q.s.mono heldStack m⟩
  have hli := limited_sides (new_some hN).1.1
  have hW : c.W = ((c.W.toNat : Nat) : Int) := by omega
  have hH : c.H = ((c.H.toNat : Nat) : Int) := by omega
  have hlen : G.uses.length = c.W.toNat * c.H.toNat := by
    have := (new_some hN).2.2.2.2.len
    rw [hW, hH] at this
    have e : ((c.W.toNat : Nat) : Int) * ((c.H.toNat : Nat) : Int) = ((c.W.toNat * c.H.toNat : Nat) : Int) := by simp
    omega
  have HR : Hid (∀ u, Below w.heap.size w u → Calls Try.prog 40 #[.agg #[.int .i64 c.W, .int .i64 c.H, .int .i64 c.height, v1, v2, v3, v4, .int .i64 c.unit, .int .i64 c.accel, .int .i64 c.speed, .int .i64 c.turn, .int .i64 c.hoist, .int .i64 c.queue, .int .i64 c.resend, .int .i64 c.budget, .bool c.back]] u fun e w' => ∃ r, e = .returned r ∧ (w'.ownsRow u.heap.size 28 2 r (stkUpTo c.W G.uses G.uses.length).length (rowL cellL (stkUpTo c.W G.uses G.uses.length)) ∧ Below u.heap.size u w')) := fun u bu => by
    have cR := rstacks_any c v1 v2 v3 v4 u (HA.out u bu) l1 l2 l3 l4 l5 c.W.toNat c.H.toNat hW hH (by omega) (by omega)
    rw [← stacks_same hN hW hH (by omega) hlen] at cR
    exact cR
  have hLl : (stkUpTo c.W G.uses G.uses.length).length ≤ 256 := Nat.le_trans (stkUpTo_len _ _ _) (by have h1 : c.W.toNat * c.H.toNat ≤ 16 * 16 := Nat.mul_le_mul (by omega) (by omega); omega)
  generalize stkUpTo c.W G.uses G.uses.length = L at *
  obtain ⟨pp, hpp⟩ : ∃ pp, portP c.ports port 0 = pp := ⟨_, rfl⟩
  rw [show ((port.1, port.2) : Cell) = port from rfl, hpp] at cP
  rw [hpp] at hEarly hEe
  have HEe : Hid ((pp < 0 → ee = 10) ∧ (¬ pp < 0 → n0 = L.length → ee = 9) ∧ (¬ pp < 0 → n0 ≠ L.length → ee = 8)) := hEe
  have HS : Hid (∀ u, Below w.heap.size w u → ListAt 3 stackEl Fs stks (.slice sa sn sc) u) := fun u b => hS.go heldStack hFs b
  have HT : Hid (∀ u, Below w.heap.size w u → ListAt 2 cellEl Ft tl (.slice ta tn tc) u) := fun u b => hT.go heldCell hFt b
  have HTn : Hid (tl.length = tn) := by obtain ⟨a, cap, e, _⟩ := hT.form; injection e with _ e2 _; exact e2.symm
  have HSn : Hid (stks.length = sn) := by obtain ⟨a, cap, e, _⟩ := hS.form; injection e with _ e2 _; exact e2.symm
  have HPl : Hid (∀ x, (pileOf stks x).length ≤ 17592186044416) := hp
  have HFd : Hid (Fd stks L bin n0 j) := hFd
  have HE : Hid (pp < 0 ∨ n0 = L.length ∨ L.getD n0 (0, 0) ∈ tl) := hEarly
  have HB2 : Hid (Below w.heap.size w w2) := b2
  clear hA hF hS hT hp hli hlen hW hH l5 hFd hEarly hEe hpp b2
  go_enter Try.func11, Try.ntmps11
  go_upto_region 1 with fail
  rw [← hw2]
  clear hw2
  by_cases hpn : pp < 0
  · have hdp := decide_eq_true hpn
    go_wp2_with (first
      | (refine wpList_load_row rfl 26 (.tmp 5) rfl w.heap.size rfl 26 _ (0, 0) _ hc2 Try.underlying26 rfl info_conf ?_)
      | (refine wpList_load_row rfl 28 (.tmp 9) rfl (w.heap.size + 1) rfl 28 #[.int .i64 port.1, .int .i64 port.2] (0, 0) _ hp2 Try.underlying28 rfl infoCell2 ?_)
      | (go_at_call 39; refine cP.mono ?_; rintro e w3 ⟨r3, rfl, rfl, b3⟩))
    exact bodyPost_ret (results_tmp2 rfl _ _ _) rfl ⟨_, rfl, by rw [HEe.out.1 hpn]; rfl, bcat HB2.out b3 (Nat.le_refl _)⟩
  · have hdp := decide_eq_false hpn
    have HE2 : Hid (n0 = L.length ∨ L.getD n0 (0, 0) ∈ tl) := HE.out.resolve_left hpn
    clear HE
    go_upto_region 3 with (first
      | (refine wpList_load_row rfl 26 (.tmp 5) rfl w.heap.size rfl 26 _ (0, 0) _ hc2 Try.underlying26 rfl info_conf ?_)
      | (refine wpList_load_row rfl 28 (.tmp 9) rfl (w.heap.size + 1) rfl 28 #[.int .i64 port.1, .int .i64 port.2] (0, 0) _ hp2 Try.underlying28 rfl infoCell2 ?_)
      | (go_at_call 39; refine cP.mono ?_; rintro e w3 ⟨r3, rfl, rfl, b3⟩))
    have HB3 : Hid (Below w.heap.size w w3) := bcat HB2.out b3 (Nat.le_refl _)
    have hc3 := (b3.block _ (lt_of_heap hc2)).trans hc2
    have cR := HR.out w3 HB3.out
    clear cP hc2 hp2 b3 HB2 HR
    go_upto_region 4 with (first
      | (refine wpList_load_row rfl 26 (.tmp 5) rfl w.heap.size rfl 26 _ (0, 0) _ hc3 Try.underlying26 rfl info_conf ?_)
      | (go_at_call 40; refine cR.mono ?_; rintro e w1 ⟨rv, rfl, ownL, b1⟩))
    have HB1 : Hid (Below w.heap.size w w1) := bcat HB3.out b1 (Nat.le_refl _)
    obtain ⟨la, lc, hvL, _⟩ := own_form ownL
    obtain ⟨n, hn⟩ : ∃ n, L.length = n := ⟨_, rfl⟩
    have HNn : Hid (L.length = n) := hn
    rw [hn] at hvL hLl
    subst hvL
    have HOL : Hid (w1.ownsRow w3.heap.size 28 2 (.slice la n lc) L.length (rowL cellL L)) := ownL
    have HBz : Hid (Below w1.heap.size w1 w1) := Below.refl _ _
    have HIt : Hid (∀ (lp : Addr) (u : World), la = some lp → Below w1.heap.size w1 u → ∀ i (h : i < L.length) j z, #[Value.int .i64 (L[i]'h).1, .int .i64 (L[i]'h).2][j]? = some z → u.cell? ((lp.add (i * 2)).add j) = some z) := fun lp u hlp hu i h j z hj => by
      obtain ⟨p2, c2, hv, hrd⟩ := own_item (own_go HOL.out hu) h
      injection hv with q1 _ _
      rw [hlp] at q1
      injection q1 with q1
      subst q1
      exact hrd j z hj
    have HSome : Hid (0 < n → ∃ lp, la = some lp) := fun q => by
      obtain ⟨p2, c2, hv, _⟩ := own_item HOL.out (k := 0) (by rw [HNn.out]; exact q)
      injection hv with q1 _ _
      exact ⟨p2, q1⟩
    have hn0 : n0 ≤ n := by have := HFd.out.le; rw [HNn.out] at this; exact this
    obtain ⟨ab, hab⟩ : ∃ ab : Int, ((pileOf stks (L.getD n0 (0, 0))).length : Int) - 1 - j = ab := ⟨_, rfl⟩
    have HAb : Hid (((pileOf stks (L.getD n0 (0, 0))).length : Int) - 1 - j = ab) := hab
    clear hc3 cR b1 ownL hn hab
    go_wp2_with fail
    go_loopw [13, 14, 15] (fun av bv iv wq => ∃ (i : Nat) (a b : Int), i ≤ n ∧ iv = .int .i64 i ∧ av = .int .i64 a ∧ bv = .int .i64 b ∧ ((a = -1 ∧ b = 0 ∧ i ≤ n0) ∨ (n0 < n ∧ a = n0 ∧ b = ab ∧ i = n0 + 1)) ∧ Hid (Below w1.heap.size w1 wq)) (fun _ _ iv _ => n - (intOf iv).toNat)
    case atStart => exact ⟨0, -1, 0, Nat.zero_le _, rfl, rfl, rfl, .inl ⟨rfl, rfl, Nat.zero_le _⟩, HBz⟩
    case round =>
      clear HBz
      obtain ⟨i, a, b, hi, rfl, rfl, rfl, hcase, HB⟩ := hrel
      rcases hcase with ⟨rfl, rfl, hin0⟩ | ⟨hfn, rfl, rfl, rfl⟩
      · by_cases hlt : i < n
        · have hd : decide ((i : Int) < (n : Int)) = true := decide_eq_true (by omega)
          obtain ⟨lp, rfl⟩ := HSome.out (by omega)
          have hiL : i < L.length := by rw [HNn.out]; exact hlt
          have HGd : Hid (L.getD i (0, 0) = L[i]'hiL) := getD_at hiL
          have hck0 := HIt.out lp wr rfl HB.out i hiL
          generalize L[i]'hiL = ck at *
          have hck : ∀ j z, #[Value.int .i64 ck.1, .int .i64 ck.2][j]? = some z → wr.cell? ((lp.add (i * 2)).add j) = some z := hck0
          have hin : (i : Int) < (n : Int) := by omega
          have bwr := bcat HB1.out HB.out (Nat.le_refl _)
          have cB := refBins_any Fs stks (.slice sa sn sc) ck wr (HS.out _ bwr) (fun b hb => Nat.lt_of_lt_of_le (hFs b hb) bwr.size) (by rw [HSn.out]; omega)
          obtain ⟨ln, hln⟩ : ∃ ln, (pileOf stks ck).length = ln := ⟨_, rfl⟩
          have HLn : Hid ((pileOf stks ck).length = ln) := hln
          have hlnb := HPl.out ck
          rw [hln] at hlnb
          clear hck0 hln
          go_upto_region 10 with (first
            | (refine wpList_load_at rfl 28 (.tmp 45) rfl (lp.add (i * 2)) rfl #[Value.int .i64 ck.1, .int .i64 ck.2] hck (aggCell _) infoCell2 ?_)
            | (go_at_call 41; refine cB.mono ?_; rintro e w4 ⟨rb, rfl, hLb, b4⟩; obtain ⟨ba, bc, hvb, _⟩ := hLb.form; rw [HLn.out] at hvb; subst hvb))
          have HB4 : Hid (Below w1.heap.size w1 w4) := bcat HB.out b4 (Nat.le_refl _)
          have HLb : Hid (∀ u, Below w1.heap.size w1 u → Below w4.heap.size w4 u → ListAt 1 intEl Fs (pileOf stks ck) (.slice ba ln bc) u) := fun u _ h4 => hLb.go heldInt (fun b hb => Nat.lt_of_lt_of_le (hFs b hb) (Nat.le_trans bwr.size b4.size)) h4
          have HZ : Hid (Below w4.heap.size w4 w4) := Below.refl _ _
          clear cB hLb hck b4 bwr
          go_wp2_with fail
          go_loopw [13, 14, 17] (fun av bv kv wq => ∃ k : Nat, k ≤ ln ∧ kv = .int .i64 k ∧ av = .int .i64 (-1) ∧ bv = .int .i64 0 ∧ Hid (∀ m, m < k → (pileOf stks ck)[m]? ≠ some bin) ∧ Hid (Below w4.heap.size w4 wq)) (fun _ _ kv _ => ln - (intOf kv).toNat)
          case atStart => exact ⟨0, Nat.zero_le _, rfl, rfl, rfl, (fun m hm => absurd hm (Nat.not_lt_zero _)), HZ⟩
          case round =>
            clear HZ
            obtain ⟨k, hk, rfl, rfl, rfl, HNo, HBk⟩ := hrel
            have HBw : Hid (Below w1.heap.size w1 wr) := bcat HB4.out HBk.out (Nat.le_refl _)
            by_cases hkl : k < ln
            · have hd2 : decide ((k : Int) < (ln : Int)) = true := decide_eq_true (by omega)
              have hkp : k < (pileOf stks ck).length := by rw [HLn.out]; exact hkl
              obtain ⟨bp, bcs, bcap, hbv, _, hbc, hbrd⟩ := (HLb.out _ HBw.out HBk.out).item hkp
              have HZk : Hid ((pileOf stks ck)[k]? = some ((pileOf stks ck)[k]'hkp)) := List.getElem?_eq_getElem hkp
              generalize (pileOf stks ck)[k]'hkp = z at *
              obtain rfl := hbc
              obtain ⟨rfl, rfl⟩ : ba = some bp ∧ bc = bcap := by injection hbv with h1 h2 h3; exact ⟨h1, h3⟩
              have r1 := hbrd 0 _ rfl
              rw [Nat.mul_one, add_add, Nat.add_zero] at r1
              have hkn : (k : Int) < (ln : Int) := by omega
              clear hbv hbrd
              by_cases hz : z = bin
              · have HF : Hid (i = n0 ∧ k = j) := by
                  have hmem : bin ∈ pileOf stks ck := List.mem_of_getElem? (hz ▸ HZk.out)
                  have hi0 : i = n0 := by
                    rcases Nat.lt_or_ge i n0 with h | h
                    · exact absurd hmem (by have := HFd.out.no i h; rwa [HGd.out] at this)
                    · omega
                  subst hi0
                  have h1 := HFd.out.here (by rw [HNn.out]; exact hlt)
                  have h2 := HFd.out.first (by rw [HNn.out]; exact hlt)
                  rw [HGd.out] at h1 h2
                  refine ⟨rfl, ?_⟩
                  rcases Nat.lt_trichotomy k j with h | h | h
                  · exact absurd (hz ▸ HZk.out) (h2 k h)
                  · exact h
                  · exact absurd h1 (HNo.out j h)
                have hdz : (z == bin) = true := by simp [hz]
                subst hz
                go_wp2_with fail
                go_roundw
                case rel =>
                  obtain ⟨rfl, rfl⟩ := HF.out
                  refine ⟨i + 1, i, ab, by omega, by go_num, rfl, ?_, .inr ⟨hlt, rfl, rfl, rfl⟩, HBw⟩
                  have := HAb.out
                  rw [HGd.out, HLn.out] at this
                  rw [← this]
                case measure => simp only [intOf]; omega
              · have hdz : (z == bin) = false := by simp [hz]
                have HN2 : Hid (∀ m, m < k + 1 → (pileOf stks ck)[m]? ≠ some bin) := fun m hm => by
                  rcases Nat.lt_or_ge m k with h | h
                  · exact HNo.out m h
                  · obtain rfl : m = k := by omega
                    rw [HZk.out]
                    exact fun e => hz (by injection e)
                go_wp2_with fail
                go_roundw
                case rel => exact ⟨k + 1, by omega, by go_num, rfl, rfl, HN2, HBk⟩
                case measure => simp only [intOf]; omega
            · obtain rfl : k = ln := by omega
              have hd2 : decide ((k : Int) < (k : Int)) = false := decide_eq_false (by omega)
              have hne : i ≠ n0 := fun e => by
                subst e
                have h1 := HFd.out.here (by rw [HNn.out]; exact hlt)
                rw [HGd.out] at h1
                have h3 := (List.getElem?_eq_some_iff.1 h1).1
                rw [HLn.out] at h3
                exact HNo.out j h3 h1
              go_wp2_with fail
              go_roundw
              case rel => exact ⟨i + 1, -1, 0, by omega, by go_num, rfl, rfl, .inl ⟨rfl, rfl, by omega⟩, HBw⟩
              case measure => simp only [intOf]; omega
        · obtain rfl : i = n := by omega
          have hd : decide ((i : Int) < (i : Int)) = false := decide_eq_false (by omega)
          go_wp2_with fail
          exact bodyPost_ret (results_tmp2 rfl _ _ _) rfl ⟨_, rfl, by rw [HEe.out.2.1 hpn (by rw [HNn.out]; omega)]; rfl, bcat HB1.out HB.out (Nat.le_refl _)⟩
      · have hda : decide ((n0 : Int) < 0) = false := decide_eq_false (by omega)
        obtain ⟨lp, rfl⟩ := HSome.out (by omega)
        have hiL : n0 < L.length := by rw [HNn.out]; exact hfn
        have HMt : Hid (L.getD n0 (0, 0) ∈ tl) := HE2.out.resolve_left (by rw [HNn.out]; omega)
        have HGd : Hid (L.getD n0 (0, 0) = L[n0]'hiL) := getD_at hiL
        have hck0 := HIt.out lp wr rfl HB.out n0 hiL
        generalize L[n0]'hiL = ck at *
        have hck : ∀ j z, #[Value.int .i64 ck.1, .int .i64 ck.2][j]? = some z → wr.cell? ((lp.add (n0 * 2)).add j) = some z := hck0
        have hin : (n0 : Int) < (n : Int) := by omega
        have HM : Hid (ck ∈ tl) := by have := HMt.out; rwa [HGd.out] at this
        clear hck0 HMt
        have HAm : Hid (∀ uu, Below w1.heap.size w1 uu → Calls Try.prog 42 #[.slice ta tn tc, .agg #[Value.int .i64 ck.1, .int .i64 ck.2]] uu fun e w' => ∃ r, e = .returned r ∧ (r = .bool true ∧ Below uu.heap.size uu w')) := fun uu hu => by
          have bb := bcat HB1.out hu (Nat.le_refl _)
          have := refAmong_any Ft tl (.slice ta tn tc) ck uu (HT.out _ bb) (fun b hb => Nat.lt_of_lt_of_le (hFt b hb) bb.size) (by rw [HTn.out]; omega)
          rw [decide_eq_true HM.out] at this
          exact this
        by_cases hl2 : ((n0 + 1 : Nat) : Int) < (n : Int)
        · have hd := decide_eq_true hl2
          go_upto_region 19 with (refine wpList_load_at rfl 28 (.tmp 70) rfl (lp.add (n0 * 2)) rfl #[Value.int .i64 ck.1, .int .i64 ck.2] hck (aggCell _) infoCell2 ?_)
          obtain ⟨w5, hw5⟩ : ∃ w5, w5 = wr.alloc (.cells #[Value.int .i64 ck.1, .int .i64 ck.2] 28) := ⟨_, rfl⟩
          have b5 : Below wr.heap.size wr w5 := by rw [hw5]; exact below_new (Below.refl _ _) _
          have hk5 : w5.heap[wr.heap.size]? = some (.cells #[Value.int .i64 ck.1, .int .i64 ck.2] 28 (0, 0)) := by rw [hw5]; exact heap_alloc_new wr _
          have B5 : Below w1.heap.size w1 w5 := bcat HB.out b5 (Nat.le_refl _)
          have cAm := HAm.out w5 B5
          rw [← hw5]
          clear hw5
          go_wp2_with (first
            | (refine wpList_load_row rfl 28 (.tmp 18) rfl wr.heap.size rfl 28 #[Value.int .i64 ck.1, .int .i64 ck.2] (0, 0) _ hk5 Try.underlying28 rfl infoCell2 ?_)
            | (go_at_call 42; refine cAm.mono ?_; rintro e w6 ⟨r6, rfl, rfl, b6⟩))
          exact bodyPost_ret (results_tmp2 rfl _ _ _) rfl ⟨_, rfl, by rw [HEe.out.2.2 hpn (by rw [HNn.out]; omega)]; rfl, bcat HB1.out (bcat B5 b6 (Nat.le_refl _)) (Nat.le_refl _)⟩
        · have hd := decide_eq_false hl2
          go_upto_region 19 with (refine wpList_load_at rfl 28 (.tmp 70) rfl (lp.add (n0 * 2)) rfl #[Value.int .i64 ck.1, .int .i64 ck.2] hck (aggCell _) infoCell2 ?_)
          obtain ⟨w5, hw5⟩ : ∃ w5, w5 = wr.alloc (.cells #[Value.int .i64 ck.1, .int .i64 ck.2] 28) := ⟨_, rfl⟩
          have b5 : Below wr.heap.size wr w5 := by rw [hw5]; exact below_new (Below.refl _ _) _
          have hk5 : w5.heap[wr.heap.size]? = some (.cells #[Value.int .i64 ck.1, .int .i64 ck.2] 28 (0, 0)) := by rw [hw5]; exact heap_alloc_new wr _
          have B5 : Below w1.heap.size w1 w5 := bcat HB.out b5 (Nat.le_refl _)
          have cAm := HAm.out w5 B5
          rw [← hw5]
          clear hw5
          go_wp2_with (first
            | (refine wpList_load_row rfl 28 (.tmp 18) rfl wr.heap.size rfl 28 #[Value.int .i64 ck.1, .int .i64 ck.2] (0, 0) _ hk5 Try.underlying28 rfl infoCell2 ?_)
            | (go_at_call 42; refine cAm.mono ?_; rintro e w6 ⟨r6, rfl, rfl, b6⟩))
          exact bodyPost_ret (results_tmp2 rfl _ _ _) rfl ⟨_, rfl, by rw [HEe.out.2.2 hpn (by rw [HNn.out]; omega)]; rfl, bcat HB1.out (bcat B5 b6 (Nat.le_refl _)) (Nat.le_refl _)⟩
/- So too in the words of Jobs' answer. -/
theorem refJobs_no {F : Nat → Prop} {c : Conf} {v1 v2 v3 v4 : Value} {w : World} (hA : ConfAt F c v1 v2 v3 v4 w) (hF : ∀ b, F b → b < w.heap.size) (l1 : c.blocked.length ≤ 8796093022208) (l2 : c.ports.length ≤ 8796093022208) (l3 : c.robots.length ≤ 5864062014805) (l4 : c.stacks.length ≤ 3518437208880) (l5 : ∀ s ∈ c.stacks, s.2.length ≤ 17592186044416) {G : GS} (hN : newP c = some G)
    (Fs : Nat → Prop) (stks : List Stk) (sa : Option Addr) (sn sc : Nat) (hS : ListAt 3 stackEl Fs stks (.slice sa sn sc) w) (hFs : ∀ b, Fs b → b < w.heap.size) (hsn : sn ≤ 1000000) (hp : ∀ x, (pileOf stks x).length ≤ 17592186044416)
    (Ft : Nat → Prop) (tl : List Cell) (ta : Option Addr) (tn tc : Nat) (hT : ListAt 2 cellEl Ft tl (.slice ta tn tc) w) (hFt : ∀ b, Ft b → b < w.heap.size) (htn : tn ≤ 1000000) (bin : Int) (port : Cell) {back : Bool} {r : List Jb} {ee : Int}
    (hJ : JobsR c.ports stks c.height (stkUpTo c.W G.uses G.uses.length) tl back bin port r ee) (h0 : ee ≠ 0) (h14 : ee ≠ 14) :
    r = [] ∧ Calls Try.prog 11 #[.agg #[.int .i64 c.W, .int .i64 c.H, .int .i64 c.height, v1, v2, v3, v4, .int .i64 c.unit, .int .i64 c.accel, .int .i64 c.speed, .int .i64 c.turn, .int .i64 c.hoist, .int .i64 c.queue, .int .i64 c.resend, .int .i64 c.budget, .bool c.back], .slice sa sn sc, .slice ta tn tc, .int .i64 bin, .agg #[.int .i64 port.1, .int .i64 port.2]] w fun e w' => ∃ r, e = .returned r ∧ r = .tuple #[.slice none 0 0, .int .i64 ee] ∧ Below w.heap.size w w' := by
  have cE := fun n0 j => refJobs_early hA hF l1 l2 l3 l4 l5 hN Fs stks sa sn sc hS hFs hsn hp Ft tl ta tn tc hT hFt htn bin port n0 j
  rcases hJ with ⟨q0, rfl, rfl⟩ | ⟨q0, ⟨q1, rfl, rfl⟩ | ⟨x, j, hAt, ⟨q2, rfl, rfl⟩ | ⟨q2, P, hP, ⟨q3, rfl, rfl⟩ | ⟨q3, _, rfl, rfl⟩⟩⟩⟩
  · obtain ⟨n0, j, hFd⟩ := fd_ex stks (stkUpTo c.W G.uses G.uses.length) bin
    exact ⟨rfl, cE n0 j hFd (.inl q0) 10 ⟨fun _ => rfl, fun h => absurd q0 h, fun h => absurd q0 h⟩⟩
  · exact ⟨rfl, cE _ 0 (fd_none q1) (.inr (.inl rfl)) 9 ⟨fun h => by omega, fun _ _ => rfl, fun _ h => absurd rfl h⟩⟩
  · obtain ⟨n0, hn, e, hFd⟩ := fd_at hAt
    exact ⟨rfl, cE n0 j hFd (.inr (.inr (by rw [e]; exact q2))) 8 ⟨fun h => by omega, fun _ h => by omega, fun _ _ => rfl⟩⟩
  · exact absurd rfl h14
  · exact absurd rfl h0
end Go.Proofs.Ytgnpmjlliolmoaa.Dig
