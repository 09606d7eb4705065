/-
  The chapter's own Jobs where the bin is found at a cell that is not touched.
-/
import Derived.Test.YtgnpmjlliolmoaaDigRefRn
import Derived.Test.YtgnpmjlliolmoaaDgI
import Derived.Deep.DeepCutAuto
import Derived.Deep.CutRange
namespace Go.Proofs.Ytgnpmjlliolmoaa.Dig
set_option linter.unusedVariables false
set_option linter.unusedSimpArgs false
open Go Go.RowKit Go.Shelf Go.Proofs Go.Proofs.Ytgnpmjlliolmoaa.Grid Go.Proofs.Ytgnpmjlliolmoaa.Srt
attribute [local go_sem] Oper.semAt_some

set_option maxRecDepth 100000 in
set_option maxHeartbeats 4000000 in
theorem refJobs_lateB {F : Nat → Prop} {c : Conf} {v1 v2 v3 v4 : Value} {w : World} (hA : ConfAt F c v1 v2 v3 v4 w) (hF : ∀ b, F b → b < w.heap.size) (l1 : c.blocked.length ≤ 8796093022208) (l2 : c.ports.length ≤ 8796093022208) (l3 : c.robots.length ≤ 5864062014805) (l4 : c.stacks.length ≤ 3518437208880) (l5 : ∀ s ∈ c.stacks, s.2.length ≤ 17592186044416) {G : GS} (hN : newP c = some G)
    (Fs : Nat → Prop) (stks : List Stk) (sa : Option Addr) (sn sc : Nat) (hS : ListAt 3 stackEl Fs stks (.slice sa sn sc) w) (hFs : ∀ b, Fs b → b < w.heap.size) (hsn : sn ≤ 1000000) (hp : ∀ x, (pileOf stks x).length ≤ 17592186044416)
    (Ft : Nat → Prop) (tl : List Cell) (ta : Option Addr) (tn tc : Nat) (hT : ListAt 2 cellEl Ft tl (.slice ta tn tc) w) (hFt : ∀ b, Ft b → b < w.heap.size) (htn : tn ≤ 1000000) (bin : Int) (port : Cell) (n0 j : Nat) (hFd : Fd stks (stkUpTo c.W G.uses G.uses.length) bin n0 j)
    (hn0L : n0 < (stkUpTo c.W G.uses G.uses.length).length) (hport : ¬ portP c.ports port 0 < 0) (x : Cell) (hx : (stkUpTo c.W G.uses G.uses.length).getD n0 (0, 0) = x) (hxt : x ∉ tl) (P : List Cell) (hP : Places stks c.height (stkUpTo c.W G.uses G.uses.length) tl x P) (hPl : P.length ≤ 256000) (hsel : ¬ n0 + 1 < (stkUpTo c.W G.uses G.uses.length).length) :
    Calls Try.prog 11 #[.agg #[.int .i64 c.W, .int .i64 c.H, .int .i64 c.height, v1, v2, v3, v4, .int .i64 c.unit, .int .i64 c.accel, .int .i64 c.speed, .int .i64 c.turn, .int .i64 c.hoist, .int .i64 c.queue, .int .i64 c.resend, .int .i64 c.budget, .bool c.back], .slice sa sn sc, .slice ta tn tc, .int .i64 bin, .agg #[.int .i64 port.1, .int .i64 port.2]] w fun e w' => ∃ r, e = .returned r ∧ (∃ v rr ee, r = .tuple #[v, .int .i64 ee] ∧ ((P.length < ((pileOf stks x).drop (j + 1)).length ∧ rr = [] ∧ ee = 14) ∨ (((pileOf stks x).drop (j + 1)).length ≤ P.length ∧ rr = jobsP ((pileOf stks x).drop (j + 1)) x P bin port c.back ∧ ee = 0)) ∧ w'.ownsRow w.heap.size 45 9 v rr.length (rowL jobL rr)) ∧ Below w.heap.size w w' := by
  obtain ⟨w2, hw2⟩ : ∃ w2, w2 = (w.alloc (.cells #[.int .i64 c.W, .int .i64 c.H, .int .i64 c.height, v1, v2, v3, v4, .int .i64 c.unit, .int .i64 c.accel, .int .i64 c.speed, .int .i64 c.turn, .int .i64 c.hoist, .int .i64 c.queue, .int .i64 c.resend, .int .i64 c.budget, .bool c.back] 26)).alloc (.cells #[.int .i64 port.1, .int .i64 port.2] 28) := ⟨_, rfl⟩
  have b2 : Below w.heap.size w w2 := by rw [hw2]; exact below_two _ _ _
  have hc2 : w2.heap[w.heap.size]? = some (.cells #[.int .i64 c.W, .int .i64 c.H, .int .i64 c.height, v1, v2, v3, v4, .int .i64 c.unit, .int .i64 c.accel, .int .i64 c.speed, .int .i64 c.turn, .int .i64 c.hoist, .int .i64 c.queue, .int .i64 c.resend, .int .i64 c.budget, .bool c.back] 26 (0, 0)) := by rw [hw2]; exact (alloc_old _ _ _ (by simp)).trans (heap_alloc_new w _)
  have hp2 : w2.heap[w.heap.size + 1]? = some (.cells #[.int .i64 port.1, .int .i64 port.2] 28 (0, 0)) := by rw [hw2]; exact heap_new2 _ _ _
  have cP := portR_any F c v1 v2 v3 v4 port.1 port.2 w2 (hA.go hF b2) (fun b hb => Nat.lt_of_lt_of_le (hF b hb) b2.size) (by omega)
  have HA : Hid (∀ u, Below w.heap.size w u → ConfAt (Old u) c v1 v2 v3 v4 u) := fun u bu => by
    have q := hA.go hF bu
    have m : ∀ g, F g → Old u g := fun g hg => Nat.lt_of_lt_of_le (hF g hg) bu.size
    exact ⟨q.b.mono heldCell m, q.p.mono heldCell m, q.r.mono heldPose m, q.s.mono heldStack m⟩
  have hli := limited_sides (new_some hN).1.1
  have hW : c.W = ((c.W.toNat : Nat) : Int) := by omega
  have hH : c.H = ((c.H.toNat : Nat) : Int) := by omega
  have hlen : G.uses.length = c.W.toNat * c.H.toNat := by
    have := (new_some hN).2.2.2.2.len
    rw [hW, hH] at this
    have e : ((c.W.toNat : Nat) : Int) * ((c.H.toNat : Nat) : Int) = ((c.W.toNat * c.H.toNat : Nat) : Int) := by simp
    omega
  have HR : Hid (∀ u, Below w.heap.size w u → Calls Try.prog 40 #[.agg #[.int .i64 c.W, .int .i64 c.H, .int .i64 c.height, v1, v2, v3, v4, .int .i64 c.unit, .int .i64 c.accel, .int .i64 c.speed, .int .i64 c.turn, .int .i64 c.hoist, .int .i64 c.queue, .int .i64 c.resend, .int .i64 c.budget, .bool c.back]] u fun e w' => ∃ r, e = .returned r ∧ (w'.ownsRow u.heap.size 28 2 r (stkUpTo c.W G.uses G.uses.length).length (rowL cellL (stkUpTo c.W G.uses G.uses.length)) ∧ Below u.heap.size u w')) := fun u bu => by
    have cR := rstacks_any c v1 v2 v3 v4 u (HA.out u bu) l1 l2 l3 l4 l5 c.W.toNat c.H.toNat hW hH (by omega) (by omega)
    rw [← stacks_same hN hW hH (by omega) hlen] at cR
    exact cR
  have hLl : (stkUpTo c.W G.uses G.uses.length).length ≤ 256 := Nat.le_trans (stkUpTo_len _ _ _) (by have h1 : c.W.toNat * c.H.toNat ≤ 16 * 16 := Nat.mul_le_mul (by omega) (by omega); omega)
  have HPlace : Hid (∀ (u : World) (Fg : Nat → Prop) (gl : List Cell) (ga : Option Addr) (gn gc : Nat), Below w.heap.size w u → ListAt 2 cellEl Fg gl (.slice ga gn gc) u → (∀ b, Fg b → b < u.heap.size) → gn ≤ 1000000 → Calls Try.prog 43 #[.agg #[.int .i64 c.W, .int .i64 c.H, .int .i64 c.height, v1, v2, v3, v4, .int .i64 c.unit, .int .i64 c.accel, .int .i64 c.speed, .int .i64 c.turn, .int .i64 c.hoist, .int .i64 c.queue, .int .i64 c.resend, .int .i64 c.budget, .bool c.back], .slice sa sn sc, .slice ta tn tc, .slice ga gn gc, .agg #[.int .i64 x.1, .int .i64 x.2]] u fun e w' => ∃ r, e = .returned r ∧ (∃ o : Option Cell, r = .tuple #[.agg #[.int .i64 (cellOf o).1, .int .i64 (cellOf o).2], .bool o.isSome] ∧ PlaceR stks c.height (stkUpTo c.W G.uses G.uses.length) tl gl x o) ∧ Below u.heap.size u w') := fun u Fg gl ga gn gc bu hG hFg hgn =>
    refPlace_any (hA.go hF bu) (fun b hb => Nat.lt_of_lt_of_le (hF b hb) bu.size) l1 l2 l3 l4 l5 hN Fs stks sa sn sc (hS.go heldStack hFs bu) (fun b hb => Nat.lt_of_lt_of_le (hFs b hb) bu.size) hsn hp Ft tl ta tn tc (hT.go heldCell hFt bu) (fun b hb => Nat.lt_of_lt_of_le (hFt b hb) bu.size) htn Fg gl ga gn gc hG hFg hgn x
  have hnd := stk_nodup c.W G.uses G.uses.length
  have HNext : Hid (∀ k o, PlaceR stks c.height (stkUpTo c.W G.uses G.uses.length) tl (P.take k) x o → o = P[k]?) := fun k o ho => places_next hnd hP k ho
  generalize stkUpTo c.W G.uses G.uses.length = L at *
  have HSel : Hid (¬ n0 + 1 < L.length) := hsel
  clear hsel
  obtain ⟨pp, hpp⟩ : ∃ pp, portP c.ports port 0 = pp := ⟨_, rfl⟩
  rw [show ((port.1, port.2) : Cell) = port from rfl, hpp] at cP
  rw [hpp] at hport
  have HJL : Hid (j < (pileOf stks x).length) := by have h := hFd.here hn0L; rw [hx] at h; exact (List.getElem?_eq_some_iff.1 h).1
  have HX : Hid (L.getD n0 (0, 0) = x) := hx
  have HXt : Hid (x ∉ tl) := hxt
  have HS : Hid (∀ u, Below w.heap.size w u → ListAt 3 stackEl Fs stks (.slice sa sn sc) u) := fun u b => hS.go heldStack hFs b
  have HT : Hid (∀ u, Below w.heap.size w u → ListAt 2 cellEl Ft tl (.slice ta tn tc) u) := fun u b => hT.go heldCell hFt b
  have HTn : Hid (tl.length = tn) := by obtain ⟨a, cap, e, _⟩ := hT.form; injection e with _ e2 _; exact e2.symm
  have HSn : Hid (stks.length = sn) := by obtain ⟨a, cap, e, _⟩ := hS.form; injection e with _ e2 _; exact e2.symm
  have HPl : Hid (∀ x, (pileOf stks x).length ≤ 17592186044416) := hp
  have HFd : Hid (Fd stks L bin n0 j) := hFd
  have HB2 : Hid (Below w.heap.size w w2) := b2
  clear hA hF hS hT hp hli hlen hW hH l5 hFd hpp b2 hnd hP hx hxt
  go_enter Try.func11, Try.ntmps11
  go_upto_region 1 with fail
  rw [← hw2]
  clear hw2
  by_cases hpn : pp < 0
  · exact absurd hpn hport
  · have hdp := decide_eq_false hpn
    go_upto_region 3 with (first
      | (refine wpList_load_row rfl 26 (.tmp 5) rfl w.heap.size rfl 26 _ (0, 0) _ hc2 Try.underlying26 rfl info_conf ?_)
      | (refine wpList_load_row rfl 28 (.tmp 9) rfl (w.heap.size + 1) rfl 28 #[.int .i64 port.1, .int .i64 port.2] (0, 0) _ hp2 Try.underlying28 rfl infoCell2 ?_)
      | (go_at_call 39; refine cP.mono ?_; rintro e w3 ⟨r3, rfl, rfl, b3⟩))
    have HB3 : Hid (Below w.heap.size w w3) := bcat HB2.out b3 (Nat.le_refl _)
    have hc3 := (b3.block _ (lt_of_heap hc2)).trans hc2
    have cR := HR.out w3 HB3.out
    have hp3 := (b3.block _ (lt_of_heap hp2)).trans hp2
    clear cP hc2 hp2 b3 HB2 HR
    go_upto_region 4 with (first
      | (refine wpList_load_row rfl 26 (.tmp 5) rfl w.heap.size rfl 26 _ (0, 0) _ hc3 Try.underlying26 rfl info_conf ?_)
      | (go_at_call 40; refine cR.mono ?_; rintro e w1 ⟨rv, rfl, ownL, b1⟩))
    have HB1 : Hid (Below w.heap.size w w1) := bcat HB3.out b1 (Nat.le_refl _)
    obtain ⟨la, lc, hvL, _⟩ := own_form ownL
    obtain ⟨n, hn⟩ : ∃ n, L.length = n := ⟨_, rfl⟩
    have HNn : Hid (L.length = n) := hn
    rw [hn] at hvL hLl
    subst hvL
    have HOL : Hid (w1.ownsRow w3.heap.size 28 2 (.slice la n lc) L.length (rowL cellL L)) := ownL
    have HBz : Hid (Below w1.heap.size w1 w1) := Below.refl _ _
    have HIt : Hid (∀ (lp : Addr) (u : World), la = some lp → Below w1.heap.size w1 u → ∀ i (h : i < L.length) j z, #[Value.int .i64 (L[i]'h).1, .int .i64 (L[i]'h).2][j]? = some z → u.cell? ((lp.add (i * 2)).add j) = some z) := fun lp u hlp hu i h j z hj => by
      obtain ⟨p2, c2, hv, hrd⟩ := own_item (own_go HOL.out hu) h
      injection hv with q1 _ _
      rw [hlp] at q1
      injection q1 with q1
      subst q1
      exact hrd j z hj
    have HSome : Hid (0 < n → ∃ lp, la = some lp) := fun q => by
      obtain ⟨p2, c2, hv, _⟩ := own_item HOL.out (k := 0) (by rw [HNn.out]; exact q)
      injection hv with q1 _ _
      exact ⟨p2, q1⟩
    have hn0 : n0 ≤ n := by have := HFd.out.le; rw [HNn.out] at this; exact this
    obtain ⟨an, han⟩ : ∃ an : Nat, ((pileOf stks x).drop (j + 1)).length = an := ⟨_, rfl⟩
    have HAn : Hid (((pileOf stks x).drop (j + 1)).length = an) := han
    have HAb : Hid (((pileOf stks (L.getD n0 (0, 0))).length : Int) - 1 - j = (an : Int)) := by show _ = _; rw [HX.out, ← han]; exact (above_len HJL.out).symm
    have HCb : Hid (w1.heap[w.heap.size]? = some (.cells #[.int .i64 c.W, .int .i64 c.H, .int .i64 c.height, v1, v2, v3, v4, .int .i64 c.unit, .int .i64 c.accel, .int .i64 c.speed, .int .i64 c.turn, .int .i64 c.hoist, .int .i64 c.queue, .int .i64 c.resend, .int .i64 c.budget, .bool c.back] 26 (0, 0)) ∧ w1.heap[w.heap.size + 1]? = some (.cells #[.int .i64 port.1, .int .i64 port.2] 28 (0, 0))) := ⟨(b1.block _ (lt_of_heap hc3)).trans hc3, (b1.block _ (lt_of_heap hp3)).trans hp3⟩
    have hnn : n0 < n := by rw [hn] at hn0L; exact hn0L
    clear hn0L han hp3
    clear hc3 cR b1 ownL hn
    go_wp2_with fail
    go_loopw [13, 14, 15] (fun av bv iv wq => ∃ (i : Nat) (a b : Int), i ≤ n ∧ iv = .int .i64 i ∧ av = .int .i64 a ∧ bv = .int .i64 b ∧ ((a = -1 ∧ b = 0 ∧ i ≤ n0) ∨ (n0 < n ∧ a = n0 ∧ b = an ∧ i = n0 + 1)) ∧ Hid (Below w1.heap.size w1 wq)) (fun _ _ iv _ => n - (intOf iv).toNat)
    case atStart => exact ⟨0, -1, 0, Nat.zero_le _, rfl, rfl, rfl, .inl ⟨rfl, rfl, Nat.zero_le _⟩, HBz⟩
    case round =>
      clear HBz
      obtain ⟨i, a, b, hi, rfl, rfl, rfl, hcase, HB⟩ := hrel
      rcases hcase with ⟨rfl, rfl, hin0⟩ | ⟨hfn, rfl, rfl, rfl⟩
      · by_cases hlt : i < n
        · have hd : decide ((i : Int) < (n : Int)) = true := decide_eq_true (by omega)
          obtain ⟨lp, rfl⟩ := HSome.out (by omega)
          have hiL : i < L.length := by rw [HNn.out]; exact hlt
          have HGd : Hid (L.getD i (0, 0) = L[i]'hiL) := getD_at hiL
          have hck0 := HIt.out lp wr rfl HB.out i hiL
          generalize L[i]'hiL = ck at *
          have hck : ∀ j z, #[Value.int .i64 ck.1, .int .i64 ck.2][j]? = some z → wr.cell? ((lp.add (i * 2)).add j) = some z := hck0
          have hin : (i : Int) < (n : Int) := by omega
          have bwr := bcat HB1.out HB.out (Nat.le_refl _)
          have cB := refBins_any Fs stks (.slice sa sn sc) ck wr (HS.out _ bwr) (fun b hb => Nat.lt_of_lt_of_le (hFs b hb) bwr.size) (by rw [HSn.out]; omega)
          obtain ⟨ln, hln⟩ : ∃ ln, (pileOf stks ck).length = ln := ⟨_, rfl⟩
          have HLn : Hid ((pileOf stks ck).length = ln) := hln
          have hlnb := HPl.out ck
          rw [hln] at hlnb
          clear hck0 hln
          go_upto_region 10 with (first
            | (refine wpList_load_at rfl 28 (.tmp 45) rfl (lp.add (i * 2)) rfl #[Value.int .i64 ck.1, .int .i64 ck.2] hck (aggCell _) infoCell2 ?_)
            | (go_at_call 41; refine cB.mono ?_; rintro e w4 ⟨rb, rfl, hLb, b4⟩; obtain ⟨ba, bc, hvb, _⟩ := hLb.form; rw [HLn.out] at hvb; subst hvb))
          have HB4 : Hid (Below w1.heap.size w1 w4) := bcat HB.out b4 (Nat.le_refl _)
          have HLb : Hid (∀ u, Below w1.heap.size w1 u → Below w4.heap.size w4 u → ListAt 1 intEl Fs (pileOf stks ck) (.slice ba ln bc) u) := fun u _ h4 => hLb.go heldInt (fun b hb => Nat.lt_of_lt_of_le (hFs b hb) (Nat.le_trans bwr.size b4.size)) h4
          have HZ : Hid (Below w4.heap.size w4 w4) := Below.refl _ _
          clear cB hLb hck b4 bwr
          go_wp2_with fail
          go_loopw [13, 14, 17] (fun av bv kv wq => ∃ k : Nat, k ≤ ln ∧ kv = .int .i64 k ∧ av = .int .i64 (-1) ∧ bv = .int .i64 0 ∧ Hid (∀ m, m < k → (pileOf stks ck)[m]? ≠ some bin) ∧ Hid (Below w4.heap.size w4 wq)) (fun _ _ kv _ => ln - (intOf kv).toNat)
          case atStart => exact ⟨0, Nat.zero_le _, rfl, rfl, rfl, (fun m hm => absurd hm (Nat.not_lt_zero _)), HZ⟩
          case round =>
            clear HZ
            obtain ⟨k, hk, rfl, rfl, rfl, HNo, HBk⟩ := hrel
            have HBw : Hid (Below w1.heap.size w1 wr) := bcat HB4.out HBk.out (Nat.le_refl _)
            by_cases hkl : k < ln
            · have hd2 : decide ((k : Int) < (ln : Int)) = true := decide_eq_true (by omega)
              have hkp : k < (pileOf stks ck).length := by rw [HLn.out]; exact hkl
              obtain ⟨bp, bcs, bcap, hbv, _, hbc, hbrd⟩ := (HLb.out _ HBw.out HBk.out).item hkp
              have HZk : Hid ((pileOf stks ck)[k]? = some ((pileOf stks ck)[k]'hkp)) := List.getElem?_eq_getElem hkp
              generalize (pileOf stks ck)[k]'hkp = z at *
              obtain rfl := hbc
              obtain ⟨rfl, rfl⟩ : ba = some bp ∧ bc = bcap := by injection hbv with h1 h2 h3; exact ⟨h1, h3⟩
              have r1 := hbrd 0 _ rfl
              rw [Nat.mul_one, add_add, Nat.add_zero] at r1
              have hkn : (k : Int) < (ln : Int) := by omega
              clear hbv hbrd
              by_cases hz : z = bin
              · have HF : Hid (i = n0 ∧ k = j) := by
                  have hmem : bin ∈ pileOf stks ck := List.mem_of_getElem? (hz ▸ HZk.out)
                  have hi0 : i = n0 := by
                    rcases Nat.lt_or_ge i n0 with h | h
                    · exact absurd hmem (by have := HFd.out.no i h; rwa [HGd.out] at this)
                    · omega
                  subst hi0
                  have h1 := HFd.out.here (by rw [HNn.out]; exact hlt)
                  have h2 := HFd.out.first (by rw [HNn.out]; exact hlt)
                  rw [HGd.out] at h1 h2
                  refine ⟨rfl, ?_⟩
                  rcases Nat.lt_trichotomy k j with h | h | h
                  · exact absurd (hz ▸ HZk.out) (h2 k h)
                  · exact h
                  · exact absurd h1 (HNo.out j h)
                have hdz : (z == bin) = true := by simp [hz]
                subst hz
                go_wp2_with fail
                go_roundw
                case rel =>
                  obtain ⟨rfl, rfl⟩ := HF.out
                  refine ⟨i + 1, i, an, by omega, by go_num, rfl, ?_, .inr ⟨hlt, rfl, rfl, rfl⟩, HBw⟩
                  have := HAb.out
                  rw [HGd.out, HLn.out] at this
                  rw [← this]
                case measure => simp only [intOf]; omega
              · have hdz : (z == bin) = false := by simp [hz]
                have HN2 : Hid (∀ m, m < k + 1 → (pileOf stks ck)[m]? ≠ some bin) := fun m hm => by
                  rcases Nat.lt_or_ge m k with h | h
                  · exact HNo.out m h
                  · obtain rfl : m = k := by omega
                    rw [HZk.out]
                    exact fun e => hz (by injection e)
                go_wp2_with fail
                go_roundw
                case rel => exact ⟨k + 1, by omega, by go_num, rfl, rfl, HN2, HBk⟩
                case measure => simp only [intOf]; omega
            · obtain rfl : k = ln := by omega
              have hd2 : decide ((k : Int) < (k : Int)) = false := decide_eq_false (by omega)
              have hne : i ≠ n0 := fun e => by
                subst e
                have h1 := HFd.out.here (by rw [HNn.out]; exact hlt)
                rw [HGd.out] at h1
                have h3 := (List.getElem?_eq_some_iff.1 h1).1
                rw [HLn.out] at h3
                exact HNo.out j h3 h1
              go_wp2_with fail
              go_roundw
              case rel => exact ⟨i + 1, -1, 0, by omega, by go_num, rfl, rfl, .inl ⟨rfl, rfl, by omega⟩, HBw⟩
              case measure => simp only [intOf]; omega
        · obtain rfl : i = n := by omega
          exact absurd hin0 (by omega)
      · have hda : decide ((n0 : Int) < 0) = false := decide_eq_false (by omega)
        obtain ⟨lp, rfl⟩ := HSome.out (by omega)
        have hiL : n0 < L.length := by rw [HNn.out]; exact hfn
        have HGd : Hid (L.getD n0 (0, 0) = L[n0]'hiL) := getD_at hiL
        have hck0 := HIt.out lp wr rfl HB.out n0 hiL
        generalize L[n0]'hiL = ck at *
        have hck : ∀ j z, #[Value.int .i64 ck.1, .int .i64 ck.2][j]? = some z → wr.cell? ((lp.add (n0 * 2)).add j) = some z := hck0
        have hin : (n0 : Int) < (n : Int) := by omega
        have hcx : ck = x := by have := HX.out; rw [HGd.out] at this; exact this
        subst hcx
        clear hck0
        have HAm : Hid (∀ uu, Below w1.heap.size w1 uu → Calls Try.prog 42 #[.slice ta tn tc, .agg #[Value.int .i64 ck.1, .int .i64 ck.2]] uu fun e w' => ∃ r, e = .returned r ∧ (r = .bool false ∧ Below uu.heap.size uu w')) := fun uu hu => by
          have bb := bcat HB1.out hu (Nat.le_refl _)
          have := refAmong_any Ft tl (.slice ta tn tc) ck uu (HT.out _ bb) (fun b hb => Nat.lt_of_lt_of_le (hFt b hb) bb.size) (by rw [HTn.out]; omega)
          rw [decide_eq_false HXt.out] at this
          exact this
        by_cases hl2 : ((n0 + 1 : Nat) : Int) < (n : Int)
        · have hd := decide_eq_true hl2
          exact absurd hl2 (by have := HSel.out; rw [HNn.out] at this; omega)
        · have hd := decide_eq_false hl2
          go_upto_region 19 with (refine wpList_load_at rfl 28 (.tmp 70) rfl (lp.add (n0 * 2)) rfl #[Value.int .i64 ck.1, .int .i64 ck.2] hck (aggCell _) infoCell2 ?_)
          obtain ⟨w5, hw5⟩ : ∃ w5, w5 = wr.alloc (.cells #[Value.int .i64 ck.1, .int .i64 ck.2] 28) := ⟨_, rfl⟩
          have b5 : Below wr.heap.size wr w5 := by rw [hw5]; exact below_new (Below.refl _ _) _
          have hk5 : w5.heap[wr.heap.size]? = some (.cells #[Value.int .i64 ck.1, .int .i64 ck.2] 28 (0, 0)) := by rw [hw5]; exact heap_alloc_new wr _
          have B5 : Below w1.heap.size w1 w5 := bcat HB.out b5 (Nat.le_refl _)
          have cAm := HAm.out w5 B5
          rw [← hw5]
          clear hw5 hck HIt HSome HFd HGd HAm
          go_upto_region 23 with (first
            | (refine wpList_load_row rfl 28 (.tmp 18) rfl wr.heap.size rfl 28 #[Value.int .i64 ck.1, .int .i64 ck.2] (0, 0) _ hk5 Try.underlying28 rfl infoCell2 ?_)
            | (go_at_call 42; refine cAm.mono ?_; rintro e w6 ⟨r6, rfl, rfl, b6⟩))
          have B6 : Below w1.heap.size w1 w6 := bcat B5 b6 (Nat.le_refl _)
          have A6 := bcat HB1.out B6 (Nat.le_refl _)
          have hk6 := (b6.block _ (lt_of_heap hk5)).trans hk5
          obtain ⟨fb, hfb⟩ : ∃ fb, wr.heap.size = fb := ⟨_, rfl⟩
          rw [hfb] at hk6 ⊢
          have cB := refBins_any Fs stks (.slice sa sn sc) ck w6 (HS.out _ A6) (fun b hb => Nat.lt_of_lt_of_le (hFs b hb) A6.size) (by rw [HSn.out]; omega)
          obtain ⟨ln, hln⟩ : ∃ ln, (pileOf stks ck).length = ln := ⟨_, rfl⟩
          have HLn : Hid ((pileOf stks ck).length = ln) := hln
          have hlnb := HPl.out ck
          rw [hln] at hlnb
          have hanl : an + j + 1 = ln := by have h1 := HAn.out; have h2 := HJL.out; rw [List.length_drop] at h1; omega
          clear hln hfb hk5 cAm b5 b6 hda hd hin
          go_upto_region 24 with (first
            | (refine wpList_load_row rfl 28 (.tmp 18) rfl fb rfl 28 #[Value.int .i64 ck.1, .int .i64 ck.2] (0, 0) _ hk6 Try.underlying28 rfl infoCell2 ?_)
            | (go_at_call 41; refine cB.mono ?_; rintro e w7 ⟨rb, rfl, hLb, b7⟩; obtain ⟨ba, bc, hvb, _⟩ := hLb.form; rw [HLn.out] at hvb; subst hvb))
          have B7 : Below w1.heap.size w1 w7 := bcat B6 b7 (Nat.le_refl _)
          have HA7 : Hid (Below w.heap.size w w7) := bcat HB1.out B7 (Nat.le_refl _)
          have HLb : Hid (∀ u, Below w7.heap.size w7 u → ListAt 1 intEl Fs (pileOf stks ck) (.slice ba ln bc) u) := fun u h => hLb.go heldInt (fun b hb => Nat.lt_of_lt_of_le (hFs b hb) HA7.out.size) h
          have HFb : Hid (∀ b, Fs b → b < w7.heap.size) := fun b hb => Nat.lt_of_lt_of_le (hFs b hb) HA7.out.size
          have HCf : Hid (∀ u, Below w7.heap.size w7 u → u.heap[w.heap.size]? = some (.cells #[.int .i64 c.W, .int .i64 c.H, .int .i64 c.height, v1, v2, v3, v4, .int .i64 c.unit, .int .i64 c.accel, .int .i64 c.speed, .int .i64 c.turn, .int .i64 c.hoist, .int .i64 c.queue, .int .i64 c.resend, .int .i64 c.budget, .bool c.back] 26 (0, 0))) := fun u h => by
            have h1 := HCb.out.1
            have h2 := (B7.block _ (lt_of_heap h1)).trans h1
            exact (h.block _ (lt_of_heap h2)).trans h2
          have HPo : Hid (∀ u, Below w7.heap.size w7 u → u.heap[w.heap.size + 1]? = some (.cells #[.int .i64 port.1, .int .i64 port.2] 28 (0, 0))) := fun u h => by
            have h1 := HCb.out.2
            have h2 := (B7.block _ (lt_of_heap h1)).trans h1
            exact (h.block _ (lt_of_heap h2)).trans h2
          have HFr : Hid (∀ u, Below w7.heap.size w7 u → u.heap[fb]? = some (.cells #[Value.int .i64 ck.1, .int .i64 ck.2] 28 (0, 0))) := fun u h => by
            have h2 := (b7.block _ (lt_of_heap hk6)).trans hk6
            exact (h.block _ (lt_of_heap h2)).trans h2
          have HR0 : Hid (Rn w7.heap.size ((pileOf stks ck).drop (j + 1)) ck P 0 0 (.slice none 0 0) (.slice none 0 0) w7) := rn_start _ _ _ _ _
          have HZ7 : Hid (Below w7.heap.size w7 w7) := Below.refl _ _
          obtain ⟨pn, hpn2⟩ : ∃ pn, P.length = pn := ⟨_, rfl⟩
          have HPn : Hid (P.length = pn) := hpn2
          rw [hpn2] at hPl
          clear cB hLb B7 b7 B6 A6 hk6 HB HOL hpn2
          go_wp2_with fail
          go_loopw [19, 20, 22] (fun jv gv kv wq => ∃ k : Nat, k ≤ an ∧ k ≤ pn ∧ kv = .int .i64 k ∧ Hid (Rn w7.heap.size ((pileOf stks ck).drop (j + 1)) ck P k k jv gv wq) ∧ Hid (Below w7.heap.size w7 wq)) (fun _ _ kv _ => an - (intOf kv).toNat)
          case atStart => exact ⟨0, Nat.zero_le _, Nat.zero_le _, rfl, HR0, HZ7⟩
          case round =>
            clear HR0 HZ7
            obtain ⟨k, hka, hkp, rfl, HRn, HBk⟩ := hrel
            by_cases hlt : k < an
            · have hd3 : decide ((k : Int) < (an : Int)) = true := decide_eq_true (by omega)
              obtain ⟨ga, gc, hgv, _⟩ := own_form HRn.out.given
              have HTk : Hid ((P.take k).length = k) := by show _ = _; rw [List.length_take, HPn.out]; omega
              rw [HTk.out] at hgv
              have hcq := HCf.out _ HBk.out
              have hfq := HFr.out _ HBk.out
              have cPl := HPlace.out wr (Since w7.heap.size wr) (P.take k) ga k gc (bcat HA7.out HBk.out (Nat.le_refl _)) (by rw [← hgv]; exact list_of_own kindCell.len HRn.out.given) (fun b h => h.2) (by omega)
              rw [← hgv] at cPl
              clear hgv
              go_upto_region 28 with (first
                | (refine wpList_load_row rfl 26 (.tmp 5) rfl w.heap.size rfl 26 _ (0, 0) _ hcq Try.underlying26 rfl info_conf ?_)
                | (refine wpList_load_row rfl 28 (.tmp 18) rfl fb rfl 28 #[Value.int .i64 ck.1, .int .i64 ck.2] (0, 0) _ hfq Try.underlying28 rfl infoCell2 ?_)
                | (go_at_call 43; refine cPl.mono ?_; rintro e w8 ⟨r8, rfl, ⟨o, rfl, hR8⟩, b8⟩))
              have ho := HNext.out k o hR8
              obtain ⟨w9, hw9⟩ : ∃ w9, w9 = w8.alloc (.cells #[.int .i64 (cellOf o).1, .int .i64 (cellOf o).2] 28) := ⟨_, rfl⟩
              have b9 : Below w8.heap.size w8 w9 := by rw [hw9]; exact below_new (Below.refl _ _) _
              have hq9 : w9.heap[w8.heap.size]? = some (.cells #[.int .i64 (cellOf o).1, .int .i64 (cellOf o).2] 28 (0, 0)) := by rw [hw9]; exact heap_alloc_new w8 _
              have s9 : w9.heap.size = w8.heap.size + 1 := by rw [hw9]; simp
              rw [← hw9]
              have b89 := bcat b8 b9 (Nat.le_refl _)
              have HB9 : Hid (Below w7.heap.size w7 w9) := bcat HBk.out b89 (Nat.le_refl _)
              have HR9 : Hid (Rn w7.heap.size ((pileOf stks ck).drop (j + 1)) ck P k k u19 u20 w9) := HRn.out.go b89
              obtain ⟨qb, hqb⟩ : ∃ qb, w8.heap.size = qb := ⟨_, rfl⟩
              rw [hqb] at hq9 s9 ⊢
              have HGl : Hid (∀ b, u20.ownBlock = some b → b < qb) := fun b e => by have := (HRn.out.given.lt b e).2; have := b8.size; omega
              have HJl : Hid (∀ b, u19.ownBlock = some b → b < qb) := fun b e => by have := (HRn.out.jobs.lt b e).2; have := b8.size; omega
              clear hw9 cPl hR8 HRn hcq hfq b8 b9 b89 s9
              cases o with
              | none =>
                have HO : Hid (none = P[k]?) := ho
                clear ho
                simp only [Option.isSome_none]
                go_wp2_with fail
                refine bodyPost_ret (results_tmp2 rfl _ _ _) rfl ⟨_, rfl, ⟨_, [], 14, rfl, Or.inl ⟨?_, rfl, rfl⟩, World.ownsRow_nil _ _ _ _⟩, bcat HA7.out HB9.out (Nat.le_refl _)⟩
                have := List.getElem?_eq_none_iff.1 HO.out.symm
                rw [HAn.out]
                omega
              | some p =>
                have e1 : cellOf (some p) = p := rfl
                rw [e1] at hq9
                simp only [Option.isSome_some, e1]
                have hkP : k < P.length := (List.getElem?_eq_some_iff.1 ho.symm).1
                have HTs : Hid (P.take (k + 1) = P.take k ++ [p]) := by show _ = _; rw [List.take_add_one, ← ho]; rfl
                have HPd : Hid (P.getD k (0, 0) = p) := by show _ = _; rw [List.getD_eq_getElem?_getD, ← ho]; rfl
                have hkn2 : k < pn := by rw [← HPn.out]; exact hkP
                clear ho hkP e1
                have bA := (Below.refl w9.heap.size w9).alloc (Nat.le_refl _) (.cells #[.int .i64 p.1, .int .i64 p.2] 28)
                have R10 := HR9.out.go bA
                have L10 := list_one (f := cellL) (S := 2) w9 p 28 rfl
                have e1 : ((P.take k).length + [p].length) * 16 ≤ 140737488355328 := by have := HTk.out; simp only [List.length_cons, List.length_nil]; omega
                have e2 : (P.take k).length + [p].length ≤ maxLen := by have := HTk.out; unfold maxLen; simp only [List.length_cons, List.length_nil]; omega
                have e3 := Nat.le_trans HB9.out.size bA.size
                have HApp : Hid (∀ (o : Oper) (ops : Array Oper) (rest : List Oper) (a : Act) (Q : Exit → Act → World → Prop), o.guard = none → o.op = .call { callee := .builtin .append, args := #[.tmp 94, .tmp 96], argTypes := #[22, 22] } → a.eval (.tmp 94) = u20 → a.eval (.tmp 96) = .slice (some ⟨w9.heap.size, 0, none⟩) 1 1 → (∀ v' w', w'.ownsRow w7.heap.size 28 2 v' (P.take k ++ [p]).length (rowL cellL (P.take k ++ [p])) → (w9.alloc (.cells #[.int .i64 p.1, .int .i64 p.2] 28)).grownBy w' u20.ownBlock → (v'.ownBlock = u20.ownBlock ∨ v'.ownBlock = some (w9.alloc (.cells #[.int .i64 p.1, .int .i64 p.2] 28)).heap.size) → wpList Try.prog ops Q rest (a.put o.dst v') w') → wpList Try.prog ops Q (o :: rest) a (w9.alloc (.cells #[.int .i64 p.1, .int .i64 p.2] 28))) :=
                  fun o ops rest a Q hg ho h1 h2 h => wpList_app kindCell hg (.tmp 94) (.tmp 96) ho _ _ _ h1 R10.given _ _ [p] h2 L10 e1 e2 e3 h
                clear L10 e1 e2 e3
                go_upto_region 31 with (first
                  | (refine wpList_load_row rfl 28 (.tmp 23) rfl qb rfl 28 #[.int .i64 p.1, .int .i64 p.2] (0, 0) _ hq9 Try.underlying28 rfl infoCell2 ?_)
                  | (at_builtin; refine HApp.out _ _ _ _ _ rfl rfl rfl rfl ?_; intro v11 w11 own11 g11 at11))
                rw [← HTs.out] at own11
                have R11 := R10.giv own11 g11 at11
                have B10 := bcat HB9.out bA (Nat.le_refl _)
                have B11 : Below w7.heap.size w7 w11 := B10.grown g11 B10.size (fun b e => by have := (R10.given.lt b e).1; omega)
                have lt9 := lt_of_heap hq9
                have hq11 : w11.heap[qb]? = some (.cells #[.int .i64 p.1, .int .i64 p.2] 28 (0, 0)) := by
                  refine (g11.block _ (Nat.lt_of_lt_of_le lt9 bA.size) (fun e => ?_)).trans ((bA.block _ lt9).trans hq9)
                  have := HGl.out _ e.symm
                  omega
                obtain ⟨jj, hjj⟩ : ∃ jj, ln - 1 - k = jj := ⟨_, rfl⟩
                have hjl : jj < (pileOf stks ck).length := by rw [HLn.out]; omega
                have HSu0 := awaysP_succ ((pileOf stks ck).drop (j + 1)) ck P k
                rw [above_get (by rw [HAn.out]; omega), HLn.out, hjj, HPd.out] at HSu0
                obtain ⟨bp, bcs, bcap, hbv, hbF, hbc, hbrd⟩ := (HLb.out _ B11).item hjl
                have g1 : (pileOf stks ck).getD jj 0 = (pileOf stks ck)[jj]'hjl := by rw [List.getD_eq_getElem?_getD, List.getElem?_eq_getElem hjl]; rfl
                rw [g1] at HSu0
                have e1 : bcs = #[Value.int .i64 ((pileOf stks ck)[jj]'hjl)] := hbc
                subst e1
                generalize (pileOf stks ck)[jj]'hjl = bn at *
                obtain ⟨rfl, rfl⟩ : ba = some bp ∧ bc = bcap := by injection hbv with h1 h2 h3; exact ⟨h1, h3⟩
                have HSu : Hid (awaysP ((pileOf stks ck).drop (j + 1)) ck P (k + 1) = awaysP ((pileOf stks ck).drop (j + 1)) ck P k ++ [(1, bn, ck, p)]) := HSu0
                have HLk : Hid ((awaysP ((pileOf stks ck).drop (j + 1)) ck P k).length = k) := awaysP_len _ _ _ _
                have HBn : Hid (∀ u, Below w7.heap.size w7 u → u.cell? (bp.add jj) = some (.int .i64 bn)) := fun u hu => by
                  have := hbrd 0 (.int .i64 bn) rfl
                  rw [Nat.mul_one, add_add, Nat.add_zero] at this
                  have hb1 : bp.block < w7.heap.size := HFb.out _ hbF
                  exact (cell_same (by rw [block_add]; exact (hu.block _ hb1).trans (B11.block _ hb1).symm)).trans this
                have q1 : (ln : Int) - 1 - (k : Int) = (jj : Int) := by omega
                have q2 : IntKind.i64.wrap (jj : Int) = (jj : Int) := by rw [IntKind.wrap_i64]; omega
                have q3 : IntKind.i64.wrap ((ln : Int) - 1) = (ln : Int) - 1 := by rw [IntKind.wrap_i64]; omega
                have hjn : (jj : Int) < (ln : Int) := by omega
                obtain ⟨w12, hw12⟩ : ∃ w12, w11.drew = w12 := ⟨_, rfl⟩
                have b12 : Below w11.heap.size w11 w12 := by rw [← hw12]; exact (Below.refl _ _).drew
                have S0 : Below w7.heap.size w7 w12 ∧ w12.heap[qb]? = some (.cells #[.int .i64 p.1, .int .i64 p.2] 28 (0, 0)) := ⟨bcat B11 b12 (Nat.le_refl _), (b12.block _ (lt_of_heap hq11)).trans hq11⟩
                have HR12 : Hid (Rn w7.heap.size ((pileOf stks ck).drop (j + 1)) ck P k (k + 1) u19 v11 w12) := R11.go b12
                clear HSu0 g1 hbv hbrd hbc hjj hbF own11 g11 at11 R10 R11 bA HR9 HB9 hq9 lt9 B10 B11 hd3 hjl HApp
                refine start_held (S := fun u => Below w7.heap.size w7 u ∧ u.heap[qb]? = some (.cells #[.int .i64 p.1, .int .i64 p.2] 28 (0, 0))) 15 rfl (by kernel_rfl) (by rw [hw12]; exact S0) ?_
                rw [hw12]
                simp only [Array.replicate_succ, Array.replicate_zero, List.push_toArray, List.nil_append, List.cons_append]
                refine take_held 0 S0 rfl (by kernel_rfl) (by kernel_rfl) (by kernel_rfl) (fun _ _ _ h => h) (by kernel_rfl) (v := ?v100) ?y100 ?r100
                case y100 => (intro u hu; go_simp; try rfl)
                simp only [Act.put, List.setIfInBounds_toArray, List.set_cons_zero, List.set_cons_succ]
                refine take_held 1 S0 rfl (by kernel_rfl) (by kernel_rfl) (by kernel_rfl) (fun _ _ _ h => h) (by kernel_rfl) (v := ?v101) ?y101 ?r101
                case y101 => (intro u hu; go_simp; try rfl)
                simp only [Act.put, List.setIfInBounds_toArray, List.set_cons_zero, List.set_cons_succ]
                refine take_held 2 S0 rfl (by kernel_rfl) (by kernel_rfl) (by kernel_rfl) (fun _ _ _ h => h) (by kernel_rfl) (v := ?v102) ?y102 ?r102
                case y102 => (intro u hu; go_simp; try rfl)
                simp only [Act.put, List.setIfInBounds_toArray, List.set_cons_zero, List.set_cons_succ]
                refine take_held 3 S0 rfl (by kernel_rfl) (by kernel_rfl) (by kernel_rfl) (fun _ _ _ h => h) (by kernel_rfl) (v := ?v103) ?y103 ?r103
                case y103 => (intro u hu; go_simp; try rfl)
                simp only [Act.put, List.setIfInBounds_toArray, List.set_cons_zero, List.set_cons_succ]
                refine take_held 4 S0 rfl (by kernel_rfl) (by kernel_rfl) (by kernel_rfl) (fun _ _ _ h => h) (by kernel_rfl) (v := ?v104) ?y104 ?r104
                case y104 => (intro u hu; go_simp; try rfl)
                simp only [Act.put, List.setIfInBounds_toArray, List.set_cons_zero, List.set_cons_succ]
                refine take_held 5 S0 rfl (by kernel_rfl) (by kernel_rfl) (by kernel_rfl) (fun _ _ _ h => h) (by kernel_rfl) (v := ?v105) ?y105 ?r105
                case y105 => (intro u hu; go_simp; try rfl)
                simp only [Act.put, List.setIfInBounds_toArray, List.set_cons_zero, List.set_cons_succ]
                refine take_held 6 S0 rfl (by kernel_rfl) (by kernel_rfl) (by kernel_rfl) (fun _ _ _ h => h) (by kernel_rfl) (v := ?v106) ?y106 ?r106
                case y106 => (intro u hu; go_simp; try rfl)
                simp only [Act.put, List.setIfInBounds_toArray, List.set_cons_zero, List.set_cons_succ]
                refine take_held 7 S0 rfl (by kernel_rfl) (by kernel_rfl) (by kernel_rfl) (fun _ _ _ h => h) (by kernel_rfl) (v := ?v107) ?y107 ?r107
                case y107 => (intro u hu; go_simp; try rfl)
                simp only [Act.put, List.setIfInBounds_toArray, List.set_cons_zero, List.set_cons_succ]
                refine take_held 8 S0 rfl (by kernel_rfl) (by kernel_rfl) (by kernel_rfl) (fun _ _ _ h => h) (by kernel_rfl) (v := .int .i64 bn) ?y108 ?r108
                case y108 => (intro u hu; have zz := HBn.out u hu.1; go_simp; try rfl)
                simp only [Act.put, List.setIfInBounds_toArray, List.set_cons_zero, List.set_cons_succ]
                refine take_held 9 S0 rfl (by kernel_rfl) (by kernel_rfl) (by kernel_rfl) (fun _ _ _ h => h) (by kernel_rfl) (v := .agg #[Value.int .i64 ck.1, .int .i64 ck.2]) ?y109 ?r109
                case y109 => (intro u hu; exact run_load_op 28 _ rfl ⟨fb, 0, none⟩ _ rfl (row_below (HFr.out u hu.1) (Below.refl _ _)) (aggCell u) infoCell2)
                simp only [Act.put, List.setIfInBounds_toArray, List.set_cons_zero, List.set_cons_succ]
                refine take_held 10 S0 rfl (by kernel_rfl) (by kernel_rfl) (by kernel_rfl) (fun _ _ _ h => h) (by kernel_rfl) (v := .agg #[.int .i64 p.1, .int .i64 p.2]) ?y110 ?r110
                case y110 => (intro u hu; exact run_load_op 28 _ rfl ⟨qb, 0, none⟩ _ rfl (row_below hu.2 (Below.refl _ _)) (aggCell u) infoCell2)
                simp only [Act.put, List.setIfInBounds_toArray, List.set_cons_zero, List.set_cons_succ]
                refine take_held 11 S0 rfl (by kernel_rfl) (by kernel_rfl) (by kernel_rfl) (fun _ _ _ h => h) (by kernel_rfl) (v := .agg #[.int .i64 0, .int .i64 1, .int .i64 0, .int .i64 bn, .int .i64 ck.1, .int .i64 ck.2, .int .i64 p.1, .int .i64 p.2, .int .i64 (-1)]) ?y111 ?r111
                case y111 => (intro u hu; go_simp; try rfl)
                simp only [Act.put, List.setIfInBounds_toArray, List.set_cons_zero, List.set_cons_succ]
                refine wpAnyH_ready (rs := [12]) (by kernel_rfl) (by simp) (AllReadyH.cons ((nth_eq _ 12).trans rfl) ?_ AllReadyH.nil)
                intro K1 hK1
                have b13 : Below w12.heap.size w12 (w12.alloc (.cells #[.int .i64 0, .int .i64 1, .int .i64 0, .int .i64 bn, .int .i64 ck.1, .int .i64 ck.2, .int .i64 p.1, .int .i64 p.2, .int .i64 (-1)] 45)) := below_new (Below.refl _ _) _
                have L13 := list_one (f := jobL) (S := 9) w12 (1, bn, ck, p) 45 rfl
                change ListAt 9 (ElL jobL) (fun b => b = w12.heap.size) [(1, bn, ck, p)] (.slice (some ⟨w12.heap.size, 0, none⟩) 1 1) (w12.alloc (.cells #[.int .i64 0, .int .i64 1, .int .i64 0, .int .i64 bn, .int .i64 ck.1, .int .i64 ck.2, .int .i64 p.1, .int .i64 p.2, .int .i64 (-1)] 45)) at L13
                have S13 : Below w7.heap.size w7 (w12.alloc (.cells #[.int .i64 0, .int .i64 1, .int .i64 0, .int .i64 bn, .int .i64 ck.1, .int .i64 ck.2, .int .i64 p.1, .int .i64 p.2, .int .i64 (-1)] 45)) ∧ (w12.alloc (.cells #[.int .i64 0, .int .i64 1, .int .i64 0, .int .i64 bn, .int .i64 ck.1, .int .i64 ck.2, .int .i64 p.1, .int .i64 p.2, .int .i64 (-1)] 45)).heap[qb]? = some (.cells #[.int .i64 p.1, .int .i64 p.2] 28 (0, 0)) := ⟨bcat S0.1 b13 (Nat.le_refl _), (b13.block _ (lt_of_heap S0.2)).trans S0.2⟩
                refine value_in hK1 (by kernel_rfl) (.slice (some ⟨w12.heap.size, 0, none⟩) 1 1) (w12.alloc (.cells #[.int .i64 0, .int .i64 1, .int .i64 0, .int .i64 bn, .int .i64 ck.1, .int .i64 ck.2, .int .i64 p.1, .int .i64 p.2, .int .i64 (-1)] 45)) (by go_simp; try rfl) S13 ?_
                generalize hw13 : w12.alloc (.cells #[.int .i64 0, .int .i64 1, .int .i64 0, .int .i64 bn, .int .i64 ck.1, .int .i64 ck.2, .int .i64 p.1, .int .i64 p.2, .int .i64 (-1)] 45) = w13 at *
                clear hw13
                simp only [Act.put, List.setIfInBounds_toArray, List.set_cons_zero, List.set_cons_succ]
                refine wpAnyH_ready (rs := [13]) (by kernel_rfl) (by simp) (AllReadyH.cons ((nth_eq _ 13).trans rfl) ?_ AllReadyH.nil)
                intro K2 hK2
                obtain ⟨v14, w14, hrun, own14, g14, at14⟩ := run_app kindJob (owns_go HR12.out.jobs b13) L13 (by rw [HLk.out]; simp only [List.length_cons, List.length_nil]; omega) (by rw [HLk.out]; unfold maxLen; simp only [List.length_cons, List.length_nil]; omega) S13.1.size 31
                have S14 : Below w7.heap.size w7 w14 ∧ w14.heap[qb]? = some (.cells #[.int .i64 p.1, .int .i64 p.2] 28 (0, 0)) := ⟨S13.1.grown g14 S13.1.size (fun b e => by have := (HR12.out.jobs.lt b e).1; omega), (g14.block _ (lt_of_heap S13.2) (fun e => by have := HJl.out _ e.symm; omega)).trans S13.2⟩
                refine value_in hK2 (by kernel_rfl) v14 w14 (run_app_op (t := 31) (.tmp 98) (.tmp 110) rfl u19 (.slice (some ⟨w12.heap.size, 0, none⟩) 1 1) v14 rfl rfl hrun) S14 ?_
                rw [← HSu.out] at own14
                have HR14 : Hid (Rn w7.heap.size ((pileOf stks ck).drop (j + 1)) ck P (k + 1) (k + 1) v14 v11 w14) := (HR12.out.go b13).job own14 g14 at14
                have HB14 : Hid (Below w7.heap.size w7 w14) := S14.1
                clear own14 g14 at14 hrun L13
                simp only [Act.put, List.setIfInBounds_toArray, List.set_cons_zero, List.set_cons_succ]
                refine take_held 14 S14 rfl (by kernel_rfl) (by kernel_rfl) (by kernel_rfl) (fun _ _ _ h => h) (by kernel_rfl) (v := ?v112) ?y112 ?r112
                case y112 => (intro u hu; go_simp; try rfl)
                simp only [Act.put, List.setIfInBounds_toArray, List.set_cons_zero, List.set_cons_succ]
                refine done_held (by kernel_rfl) ?_ _
                go_wp2_with fail
                go_roundw
                case rel => exact ⟨k + 1, by omega, by omega, by go_num, HR14, HB14⟩
                case measure => simp only [intOf]; omega
            · obtain rfl : k = an := by omega
              have hd3 : decide ((k : Int) < (k : Int)) = false := decide_eq_false (by omega)
              obtain ⟨J, hJ⟩ : ∃ J, awaysP ((pileOf stks ck).drop (j + 1)) ck P k = J := ⟨_, rfl⟩
              have HJ : Hid (awaysP ((pileOf stks ck).drop (j + 1)) ck P k = J) := hJ
              have HJl : Hid (J.length = k) := by show _ = _; rw [← hJ]; exact awaysP_len _ _ _ _
              have HJfrom : Hid (∀ q ∈ J, q.2.2.1 = ck) := fun q hq => by rw [← hJ] at hq; exact aways_from hq
              have HOw : Hid (wr.ownsRow w7.heap.size 45 9 u19 J.length (rowL jobL J)) := by have := HRn.out.jobs; rw [hJ] at this; exact this
              have hfq := HFr.out _ HBk.out
              have hpq := HPo.out _ HBk.out
              clear hJ HRn
              go_upto_region 33 with (first
                | (refine wpList_load_row rfl 28 (.tmp 18) rfl fb rfl 28 #[Value.int .i64 ck.1, .int .i64 ck.2] (0, 0) _ hfq Try.underlying28 rfl infoCell2 ?_)
                | (refine wpList_load_row rfl 28 (.tmp 9) rfl (w.heap.size + 1) rfl 28 #[.int .i64 port.1, .int .i64 port.2] (0, 0) _ hpq Try.underlying28 rfl infoCell2 ?_)
                | (at_builtin; have bA := (Below.refl wr.heap.size wr).alloc (Nat.le_refl _) (.cells #[.int .i64 0, .int .i64 2, .int .i64 0, .int .i64 bin, .int .i64 ck.1, .int .i64 ck.2, .int .i64 port.1, .int .i64 port.2, .int .i64 (-1)] 45); have O8 := owns_go HOw.out bA; have L8 := list_one (f := jobL) (S := 9) wr (2, bin, ck, port) 45 rfl; have e1 : (J.length + [(((2, bin, ck, port)) : Jb)].length) * 72 ≤ 140737488355328 := (by have := HJl.out; simp only [List.length_cons, List.length_nil]; omega); have e2 : J.length + [(((2, bin, ck, port)) : Jb)].length ≤ maxLen := (by have := HJl.out; unfold maxLen; simp only [List.length_cons, List.length_nil]; omega); have e3 := Nat.le_trans HBk.out.size bA.size; refine wpList_app kindJob rfl (.tmp 112) (.tmp 117) rfl _ _ _ rfl O8 _ _ [(((2, bin, ck, port)) : Jb)] rfl L8 e1 e2 e3 ?_; intro v8 w8 own8 g8 at8))
              have B8 : Below w7.heap.size w7 w8 := (bcat HBk.out bA (Nat.le_refl _)).grown g8 e3 (fun b e => by have := (HOw.out.lt b e).1; omega)
              have hb8 : w8.cell? ⟨w.heap.size, 15, none⟩ = some (.bool c.back) := (cell_of (HCf.out _ B8) 15).trans rfl
              have HO8 : Hid (w8.ownsRow w7.heap.size 45 9 v8 (agR J (2, bin, ck, port) J.length).length (rowL jobL (agR J (2, bin, ck, port) J.length))) := by show w8.ownsRow _ _ _ _ _ _; rw [agR_start]; exact own8
              have HB8 : Hid (Below w7.heap.size w7 w8) := B8
              clear O8 L8 e1 e2 e3 bA own8 g8 at8 hfq hpq HOw HBk hd3
              cases hbk : c.back with
              | false =>
                rw [hbk] at hb8
                go_wp2_with fail
                refine bodyPost_ret (results_tmp2 rfl _ _ _) rfl ⟨_, rfl, ⟨_, J ++ [(((2, bin, ck, port)) : Jb)], 0, rfl, Or.inr ⟨by rw [HAn.out, HPn.out]; omega, ?_, rfl⟩, own_lower (by have := HO8.out; rw [agR_start] at this; exact this) HA7.out.size⟩, bcat HA7.out HB8.out (Nat.le_refl _)⟩
                unfold jobsP
                rw [HAn.out, HJ.out, hbk]
                simp
              | true =>
                rw [hbk] at hb8
                go_wp2_with fail
                go_loopw [19, 25] (fun v iv wz => ∃ m : Nat, m ≤ k ∧ iv = .int .i64 ((m : Int) - 1) ∧ Hid (wz.ownsRow w7.heap.size 45 9 v (agR J (2, bin, ck, port) m).length (rowL jobL (agR J (2, bin, ck, port) m))) ∧ Hid (Below w7.heap.size w7 wz)) (fun _ iv _ => (intOf iv + 1).toNat)
                case atStart => exact ⟨k, Nat.le_refl _, by go_num, by have := HO8.out; rw [HJl.out] at this; exact this, HB8⟩
                case round =>
                  clear HO8 HB8 hb8 B8
                  obtain ⟨m, hmk, rfl, HOm, HBm⟩ := hrel
                  cases m with
                  | zero =>
                    have hd4 : decide ((0 : Int) ≤ ((0 : Nat) : Int) - 1) = false := decide_eq_false (by omega)
                    go_wp2_with fail
                    refine bodyPost_ret (results_tmp2 rfl _ _ _) rfl ⟨_, rfl, ⟨_, agR J (2, bin, ck, port) 0, 0, rfl, Or.inr ⟨by rw [HAn.out, HPn.out]; omega, ?_, rfl⟩, own_lower HOm.out HA7.out.size⟩, bcat HA7.out HBm.out (Nat.le_refl _)⟩
                    unfold jobsP
                    rw [HAn.out, HJ.out, hbk, agR_end]
                    rfl
                  | succ m =>
                    have hm1 : ((m + 1 : Nat) : Int) - 1 = (m : Int) := by omega
                    rw [hm1]
                    have hd4 : decide ((0 : Int) ≤ (m : Int)) = true := decide_eq_true (by omega)
                    have hmJ : m < J.length := by rw [HJl.out]; omega
                    have HLm : Hid ((agR J (2, bin, ck, port) (m + 1)).length = 2 * k - m) := by show _ = _; rw [agR_len _ _ (by rw [HJl.out]; exact hmk), HJl.out]; omega
                    have hst := agR_step J (2, bin, ck, port) hmJ
                    have hit := agR_item J (2, bin, ck, port) (m + 1) hmJ
                    have hml : m < (agR J (2, bin, ck, port) (m + 1)).length := by rw [HLm.out]; omega
                    have hge : (agR J (2, bin, ck, port) (m + 1))[m]'hml = J[m]'hmJ := by have := hit; rw [List.getElem?_eq_getElem hml] at this; injection this
                    obtain ⟨p2, c2, hv, hrd⟩ := own_itemJ HOm.out hml
                    rw [hge] at hrd
                    have HFm : Hid ((J[m]'hmJ).2.2.1 = ck) := HJfrom.out _ (List.getElem_mem hmJ)
                    generalize J[m]'hmJ = jm at *
                    rw [HLm.out] at hv
                    subst hv
                    have HSt : Hid (agR J (2, bin, ck, port) m = agR J (2, bin, ck, port) (m + 1) ++ [(3, jm.2.1, jm.2.2.2, ck)]) := by
                      show _ = _
                      rw [hst]
                      unfold agP
                      rw [HFm.out]
                    obtain ⟨nn, hnn⟩ : ∃ nn, 2 * k - m = nn := ⟨_, rfl⟩
                    rw [hnn] at HLm ⊢
                    have hmn : (m : Int) < (nn : Int) := by omega
                    have hnl : nn ≤ 600000 := by omega
                    obtain ⟨w12, hw12⟩ : ∃ w12, wr.drew = w12 := ⟨_, rfl⟩
                    have b12 : Below wr.heap.size wr w12 := by rw [← hw12]; exact (Below.refl _ _).drew
                    have S0 : Below w7.heap.size w7 w12 := bcat HBm.out b12 (Nat.le_refl _)
                    have HO12 : Hid (w12.ownsRow w7.heap.size 45 9 (.slice (some p2) nn c2) (agR J (2, bin, ck, port) (m + 1)).length (rowL jobL (agR J (2, bin, ck, port) (m + 1)))) := by rw [← hnn]; exact owns_go HOm.out b12
                    have hlt2 : p2.block < wr.heap.size := (HOm.out.lt p2.block rfl).2
                    have hr3 : w12.cell? ((p2.add (m * 9)).add 3) = some (.int .i64 jm.2.1) := (cell_same (by rw [block_add, block_add]; exact b12.block _ hlt2)).trans (hrd 3 _ rfl)
                    have hr6 : ∀ i z, #[Value.int .i64 jm.2.2.2.1, .int .i64 jm.2.2.2.2][i]? = some z → w12.cell? (((p2.add (m * 9)).add 6).add i) = some z := fun i z hz => by
                      refine Eq.trans (b := wr.cell? (((p2.add (m * 9)).add 6).add i)) (cell_same (by rw [block_add, block_add, block_add]; exact b12.block _ hlt2)) ?_
                      rw [add_add]
                      refine hrd (6 + i) z ?_
                      match i, hz with
                      | 0, hz => exact hz
                      | 1, hz => exact hz
                      | i + 2, hz => simp at hz
                    have HR3 : Hid (w12.cell? ((p2.add (m * 9)).add 3) = some (.int .i64 jm.2.1)) := hr3
                    have HR6 : Hid (∀ i z, #[Value.int .i64 jm.2.2.2.1, .int .i64 jm.2.2.2.2][i]? = some z → w12.cell? (((p2.add (m * 9)).add 6).add i) = some z) := hr6
                    clear hst hit hge hrd HOm hr3 hr6 hlt2 hnn hml hmJ
                    go_upto_region 37 with fail
                    clear hd4
                    refine start_held (S := fun u => Below w7.heap.size w7 u) 16 rfl (by kernel_rfl) (by rw [hw12]; exact S0) ?_
                    rw [hw12]
                    clear hw12
                    simp only [Array.replicate_succ, Array.replicate_zero, List.push_toArray, List.nil_append, List.cons_append]
                    refine take_held 0 S0 rfl (by kernel_rfl) (by kernel_rfl) (by kernel_rfl) (fun _ _ _ h => h) (by kernel_rfl) (v := ?v300) ?y300 ?r300
                    case y300 => (intro u hu; go_simp; try rfl)
                    simp only [Act.put, List.setIfInBounds_toArray, List.set_cons_zero, List.set_cons_succ]
                    refine take_held 1 S0 rfl (by kernel_rfl) (by kernel_rfl) (by kernel_rfl) (fun _ _ _ h => h) (by kernel_rfl) (v := ?v301) ?y301 ?r301
                    case y301 => (intro u hu; go_simp; try rfl)
                    simp only [Act.put, List.setIfInBounds_toArray, List.set_cons_zero, List.set_cons_succ]
                    refine take_held 2 S0 rfl (by kernel_rfl) (by kernel_rfl) (by kernel_rfl) (fun _ _ _ h => h) (by kernel_rfl) (v := ?v302) ?y302 ?r302
                    case y302 => (intro u hu; go_simp; try rfl)
                    simp only [Act.put, List.setIfInBounds_toArray, List.set_cons_zero, List.set_cons_succ]
                    refine take_held 3 S0 rfl (by kernel_rfl) (by kernel_rfl) (by kernel_rfl) (fun _ _ _ h => h) (by kernel_rfl) (v := ?v303) ?y303 ?r303
                    case y303 => (intro u hu; go_simp; try rfl)
                    simp only [Act.put, List.setIfInBounds_toArray, List.set_cons_zero, List.set_cons_succ]
                    refine take_held 4 S0 rfl (by kernel_rfl) (by kernel_rfl) (by kernel_rfl) (fun _ _ _ h => h) (by kernel_rfl) (v := ?v304) ?y304 ?r304
                    case y304 => (intro u hu; go_simp; try rfl)
                    simp only [Act.put, List.setIfInBounds_toArray, List.set_cons_zero, List.set_cons_succ]
                    refine take_held 6 S0 rfl (by kernel_rfl) (by kernel_rfl) (by kernel_rfl) (fun _ _ _ h => h) (by kernel_rfl) (v := ?v305) ?y305 ?r305
                    case y305 => (intro u hu; go_simp; try rfl)
                    simp only [Act.put, List.setIfInBounds_toArray, List.set_cons_zero, List.set_cons_succ]
                    refine take_held 7 S0 rfl (by kernel_rfl) (by kernel_rfl) (by kernel_rfl) (fun _ _ _ h => h) (by kernel_rfl) (v := ?v306) ?y306 ?r306
                    case y306 => (intro u hu; go_simp; try rfl)
                    simp only [Act.put, List.setIfInBounds_toArray, List.set_cons_zero, List.set_cons_succ]
                    refine take_held 8 S0 rfl (by kernel_rfl) (by kernel_rfl) (by kernel_rfl) (fun _ _ _ h => h) (by kernel_rfl) (v := ?v307) ?y307 ?r307
                    case y307 => (intro u hu; go_simp; try rfl)
                    simp only [Act.put, List.setIfInBounds_toArray, List.set_cons_zero, List.set_cons_succ]
                    refine take_held 9 S0 rfl (by kernel_rfl) (by kernel_rfl) (by kernel_rfl) (fun _ _ _ h => h) (by kernel_rfl) (v := ?v308) ?y308 ?r308
                    case y308 => (intro u hu; go_simp; try rfl)
                    simp only [Act.put, List.setIfInBounds_toArray, List.set_cons_zero, List.set_cons_succ]
                    refine take_held 11 S0 rfl (by kernel_rfl) (by kernel_rfl) (by kernel_rfl) (fun _ _ _ h => h) (by kernel_rfl) (v := .agg #[Value.int .i64 ck.1, .int .i64 ck.2]) ?y309 ?r309
                    case y309 => (intro u hu; exact run_load_op 28 _ rfl ⟨fb, 0, none⟩ _ rfl (row_below (HFr.out u hu) (Below.refl _ _)) (aggCell u) infoCell2)
                    simp only [Act.put, List.setIfInBounds_toArray, List.set_cons_zero, List.set_cons_succ]
                    refine wpAnyH_ready (rs := [5, 10]) (by kernel_rfl) (by simp) (AllReadyH.cons ((nth_eq _ 5).trans rfl) ?_ (AllReadyH.cons ((nth_eq _ 10).trans rfl) ?_ AllReadyH.nil))
                    · intro K5 hK5
                      refine value_in hK5 (by kernel_rfl) (.int .i64 jm.2.1) w12 (by have zz : w12.cell? ⟨(p2.add (m * 9)).block, (p2.add (m * 9)).off + 3, none⟩ = some (.int .i64 jm.2.1) := HR3.out; go_simp; try rfl) S0 ?_
                      simp only [Act.put, List.setIfInBounds_toArray, List.set_cons_zero, List.set_cons_succ]
                      refine read_held 10 rfl (by kernel_rfl) (by kernel_rfl) (.agg #[.int .i64 jm.2.2.2.1, .int .i64 jm.2.2.2.2]) (run_load_op 28 _ rfl ((p2.add (m * 9)).add 6) _ rfl HR6.out (aggCell _) infoCell2) S0 ?_
                      simp only [Act.put, List.setIfInBounds_toArray, List.set_cons_zero, List.set_cons_succ]
                      refine take_held 12 S0 rfl (by kernel_rfl) (by kernel_rfl) (by kernel_rfl) (fun _ _ _ h => h) (by kernel_rfl) (v := .agg #[.int .i64 0, .int .i64 3, .int .i64 0, .int .i64 jm.2.1, .int .i64 jm.2.2.2.1, .int .i64 jm.2.2.2.2, .int .i64 ck.1, .int .i64 ck.2, .int .i64 (-1)]) ?y310 ?r310
                      case y310 => (intro u hu; go_simp; try rfl)
                      simp only [Act.put, List.setIfInBounds_toArray, List.set_cons_zero, List.set_cons_succ]
                      refine wpAnyH_ready (rs := [13]) (by kernel_rfl) (by simp) (AllReadyH.cons ((nth_eq _ 13).trans rfl) ?_ AllReadyH.nil)
                      intro K1 hK1
                      have b13 : Below w12.heap.size w12 (w12.alloc (.cells #[.int .i64 0, .int .i64 3, .int .i64 0, .int .i64 jm.2.1, .int .i64 jm.2.2.2.1, .int .i64 jm.2.2.2.2, .int .i64 ck.1, .int .i64 ck.2, .int .i64 (-1)] 45)) := below_new (Below.refl _ _) _
                      have L13 := list_one (f := jobL) (S := 9) w12 (3, jm.2.1, jm.2.2.2, ck) 45 rfl
                      change ListAt 9 (ElL jobL) (fun b => b = w12.heap.size) [(3, jm.2.1, jm.2.2.2, ck)] (.slice (some ⟨w12.heap.size, 0, none⟩) 1 1) (w12.alloc (.cells #[.int .i64 0, .int .i64 3, .int .i64 0, .int .i64 jm.2.1, .int .i64 jm.2.2.2.1, .int .i64 jm.2.2.2.2, .int .i64 ck.1, .int .i64 ck.2, .int .i64 (-1)] 45)) at L13
                      have S13 : Below w7.heap.size w7 (w12.alloc (.cells #[.int .i64 0, .int .i64 3, .int .i64 0, .int .i64 jm.2.1, .int .i64 jm.2.2.2.1, .int .i64 jm.2.2.2.2, .int .i64 ck.1, .int .i64 ck.2, .int .i64 (-1)] 45)) := bcat S0 b13 (Nat.le_refl _)
                      refine value_in hK1 (by kernel_rfl) (.slice (some ⟨w12.heap.size, 0, none⟩) 1 1) (w12.alloc (.cells #[.int .i64 0, .int .i64 3, .int .i64 0, .int .i64 jm.2.1, .int .i64 jm.2.2.2.1, .int .i64 jm.2.2.2.2, .int .i64 ck.1, .int .i64 ck.2, .int .i64 (-1)] 45)) (by go_simp; try rfl) S13 ?_
                      generalize hw13 : w12.alloc (.cells #[.int .i64 0, .int .i64 3, .int .i64 0, .int .i64 jm.2.1, .int .i64 jm.2.2.2.1, .int .i64 jm.2.2.2.2, .int .i64 ck.1, .int .i64 ck.2, .int .i64 (-1)] 45) = w13 at *
                      clear hw13
                      simp only [Act.put, List.setIfInBounds_toArray, List.set_cons_zero, List.set_cons_succ]
                      refine wpAnyH_ready (rs := [14]) (by kernel_rfl) (by simp) (AllReadyH.cons ((nth_eq _ 14).trans rfl) ?_ AllReadyH.nil)
                      intro K2 hK2
                      obtain ⟨v14, w14, hrun, own14, g14, at14⟩ := run_app kindJob (owns_go HO12.out b13) L13 (by rw [HLm.out]; simp only [List.length_cons, List.length_nil]; omega) (by rw [HLm.out]; unfold maxLen; simp only [List.length_cons, List.length_nil]; omega) S13.size 31
                      have S14 : Below w7.heap.size w7 w14 := S13.grown g14 S13.size (fun b e => by have := (HO12.out.lt b e).1; omega)
                      refine value_in hK2 (by kernel_rfl) v14 w14 (run_app_op (t := 31) (.tmp 127) (.tmp 140) rfl (.slice (some p2) nn c2) (.slice (some ⟨w12.heap.size, 0, none⟩) 1 1) v14 rfl rfl hrun) S14 ?_
                      rw [← HSt.out] at own14
                      have HO14 : Hid (w14.ownsRow w7.heap.size 45 9 v14 (agR J (2, bin, ck, port) m).length (rowL jobL (agR J (2, bin, ck, port) m))) := own14
                      have HB14 : Hid (Below w7.heap.size w7 w14) := S14
                      clear own14 g14 at14 hrun L13
                      simp only [Act.put, List.setIfInBounds_toArray, List.set_cons_zero, List.set_cons_succ]
                      refine take_held 15 S14 rfl (by kernel_rfl) (by kernel_rfl) (by kernel_rfl) (fun _ _ _ h => h) (by kernel_rfl) (v := ?v311) ?y311 ?r311
                      case y311 => (intro u hu; go_simp; try rfl)
                      simp only [Act.put, List.setIfInBounds_toArray, List.set_cons_zero, List.set_cons_succ]
                      refine done_held (by kernel_rfl) ?_ _
                      go_wp2_with fail
                      go_roundw
                      case rel => exact ⟨m, by omega, by go_num, HO14, HB14⟩
                      case measure => simp only [intOf]; omega
                    · intro K5 hK5
                      refine value_in hK5 (by kernel_rfl) (.agg #[.int .i64 jm.2.2.2.1, .int .i64 jm.2.2.2.2]) w12 (run_load_op 28 _ rfl ((p2.add (m * 9)).add 6) _ rfl HR6.out (aggCell _) infoCell2) S0 ?_
                      simp only [Act.put, List.setIfInBounds_toArray, List.set_cons_zero, List.set_cons_succ]
                      refine read_held 5 rfl (by kernel_rfl) (by kernel_rfl) (.int .i64 jm.2.1) (by have zz : w12.cell? ⟨(p2.add (m * 9)).block, (p2.add (m * 9)).off + 3, none⟩ = some (.int .i64 jm.2.1) := HR3.out; go_simp; try rfl) S0 ?_
                      simp only [Act.put, List.setIfInBounds_toArray, List.set_cons_zero, List.set_cons_succ]
                      refine take_held 12 S0 rfl (by kernel_rfl) (by kernel_rfl) (by kernel_rfl) (fun _ _ _ h => h) (by kernel_rfl) (v := .agg #[.int .i64 0, .int .i64 3, .int .i64 0, .int .i64 jm.2.1, .int .i64 jm.2.2.2.1, .int .i64 jm.2.2.2.2, .int .i64 ck.1, .int .i64 ck.2, .int .i64 (-1)]) ?y312 ?r312
                      case y312 => (intro u hu; go_simp; try rfl)
                      simp only [Act.put, List.setIfInBounds_toArray, List.set_cons_zero, List.set_cons_succ]
                      refine wpAnyH_ready (rs := [13]) (by kernel_rfl) (by simp) (AllReadyH.cons ((nth_eq _ 13).trans rfl) ?_ AllReadyH.nil)
                      intro K1 hK1
                      have b13 : Below w12.heap.size w12 (w12.alloc (.cells #[.int .i64 0, .int .i64 3, .int .i64 0, .int .i64 jm.2.1, .int .i64 jm.2.2.2.1, .int .i64 jm.2.2.2.2, .int .i64 ck.1, .int .i64 ck.2, .int .i64 (-1)] 45)) := below_new (Below.refl _ _) _
                      have L13 := list_one (f := jobL) (S := 9) w12 (3, jm.2.1, jm.2.2.2, ck) 45 rfl
                      change ListAt 9 (ElL jobL) (fun b => b = w12.heap.size) [(3, jm.2.1, jm.2.2.2, ck)] (.slice (some ⟨w12.heap.size, 0, none⟩) 1 1) (w12.alloc (.cells #[.int .i64 0, .int .i64 3, .int .i64 0, .int .i64 jm.2.1, .int .i64 jm.2.2.2.1, .int .i64 jm.2.2.2.2, .int .i64 ck.1, .int .i64 ck.2, .int .i64 (-1)] 45)) at L13
                      have S13 : Below w7.heap.size w7 (w12.alloc (.cells #[.int .i64 0, .int .i64 3, .int .i64 0, .int .i64 jm.2.1, .int .i64 jm.2.2.2.1, .int .i64 jm.2.2.2.2, .int .i64 ck.1, .int .i64 ck.2, .int .i64 (-1)] 45)) := bcat S0 b13 (Nat.le_refl _)
                      refine value_in hK1 (by kernel_rfl) (.slice (some ⟨w12.heap.size, 0, none⟩) 1 1) (w12.alloc (.cells #[.int .i64 0, .int .i64 3, .int .i64 0, .int .i64 jm.2.1, .int .i64 jm.2.2.2.1, .int .i64 jm.2.2.2.2, .int .i64 ck.1, .int .i64 ck.2, .int .i64 (-1)] 45)) (by go_simp; try rfl) S13 ?_
                      generalize hw13 : w12.alloc (.cells #[.int .i64 0, .int .i64 3, .int .i64 0, .int .i64 jm.2.1, .int .i64 jm.2.2.2.1, .int .i64 jm.2.2.2.2, .int .i64 ck.1, .int .i64 ck.2, .int .i64 (-1)] 45) = w13 at *
                      clear hw13
                      simp only [Act.put, List.setIfInBounds_toArray, List.set_cons_zero, List.set_cons_succ]
                      refine wpAnyH_ready (rs := [14]) (by kernel_rfl) (by simp) (AllReadyH.cons ((nth_eq _ 14).trans rfl) ?_ AllReadyH.nil)
                      intro K2 hK2
                      obtain ⟨v14, w14, hrun, own14, g14, at14⟩ := run_app kindJob (owns_go HO12.out b13) L13 (by rw [HLm.out]; simp only [List.length_cons, List.length_nil]; omega) (by rw [HLm.out]; unfold maxLen; simp only [List.length_cons, List.length_nil]; omega) S13.size 31
                      have S14 : Below w7.heap.size w7 w14 := S13.grown g14 S13.size (fun b e => by have := (HO12.out.lt b e).1; omega)
                      refine value_in hK2 (by kernel_rfl) v14 w14 (run_app_op (t := 31) (.tmp 127) (.tmp 140) rfl (.slice (some p2) nn c2) (.slice (some ⟨w12.heap.size, 0, none⟩) 1 1) v14 rfl rfl hrun) S14 ?_
                      rw [← HSt.out] at own14
                      have HO14 : Hid (w14.ownsRow w7.heap.size 45 9 v14 (agR J (2, bin, ck, port) m).length (rowL jobL (agR J (2, bin, ck, port) m))) := own14
                      have HB14 : Hid (Below w7.heap.size w7 w14) := S14
                      clear own14 g14 at14 hrun L13
                      simp only [Act.put, List.setIfInBounds_toArray, List.set_cons_zero, List.set_cons_succ]
                      refine take_held 15 S14 rfl (by kernel_rfl) (by kernel_rfl) (by kernel_rfl) (fun _ _ _ h => h) (by kernel_rfl) (v := ?v313) ?y313 ?r313
                      case y313 => (intro u hu; go_simp; try rfl)
                      simp only [Act.put, List.setIfInBounds_toArray, List.set_cons_zero, List.set_cons_succ]
                      refine done_held (by kernel_rfl) ?_ _
                      go_wp2_with fail
                      go_roundw
                      case rel => exact ⟨m, by omega, by go_num, HO14, HB14⟩
                      case measure => simp only [intOf]; omega
end Go.Proofs.Ytgnpmjlliolmoaa.Dig
