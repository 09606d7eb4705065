/-
  Where a bin stands; whether a config is small; a number as a place.
  Where a bin stands.
  The example of chapter 8.
  What the laws over stacks share: a call that is refused, or done; which bins there are.
-/
import Derived.Test.YtabbdclpjghdbaaStkM2
namespace Go.Proofs.Ytabbdclpjghdbaa.Stk
set_option linter.unusedVariables false
set_option linter.unusedSimpArgs false
open Go Go.RowKit Go.Shelf Go.Proofs Go.Proofs.Ytabbdclpjghdbaa.Grid
attribute [local go_sem] Oper.semAt_some

def place (v n : Int) : Int := if v.tmod n < 0 then v.tmod n + n else v.tmod n
theorem tmod_low (v n : Int) (h : 0 < n) : -n < v.tmod n := by
  by_cases g : 0 ≤ v
  · have := Int.tmod_nonneg n g
    omega
  · have h1 := Int.neg_tmod (a := v) (b := n)
    have h2 := Int.tmod_lt_of_pos (-v) h
    omega
theorem place_any (v n : Int) (w : World) (h0 : 0 < n) (h1 : n ≤ 9223372036854775807) : Calls Try.prog 12 #[.int .i64 v, .int .i64 n] w fun e w' => e = .returned (.int .i64 (place v n)) ∧ w' = w := by
  have h2 := Int.tmod_lt_of_pos v h0
  have h3 := tmod_low v n h0
  have H : Hid (place v n = if v.tmod n < 0 then v.tmod n + n else v.tmod n) := rfl
  have hn : (n == 0) = false := by rw [beq_eq_false_iff_ne]; omega
  have hn1 : ¬ n = 0 := by omega
  obtain ⟨q, hq⟩ : ∃ q, v.tmod n = q := ⟨_, rfl⟩
  rw [hq] at h2 h3 H
  by_cases hc : q < 0
  · go_enter Try.func12, Try.ntmps12
    go_wp2
    go_ret
    exact ⟨ret_int (by rw [H.out, if_pos hc]), rfl⟩
  · go_enter Try.func12, Try.ntmps12
    go_wp2
    go_ret
    exact ⟨ret_int (by rw [H.out, if_neg (by omega)]), rfl⟩
def smallN (c : Conf) : Bool := decide (c.W ≤ 6) && decide (c.H ≤ 6) && decide (c.budget ≤ 4000) && decide (c.unit ≤ 100) && decide (c.turn ≤ 200) && decide (c.hoist ≤ 200) && decide (c.robots.length ≤ 4)
set_option maxRecDepth 100000 in
set_option maxHeartbeats 4000000 in
theorem small_any (F : Nat → Prop) (c : Conf) (vb vp vr vs : Value) (w : World) (hA : ConfAt F c vb vp vr vs w) (hF : ∀ b, F b → b < w.heap.size) (l1 : c.blocked.length ≤ 8796093022208) (l2 : c.ports.length ≤ 8796093022208) (l3 : c.robots.length ≤ 5864062014805) (l4 : c.stacks.length ≤ 3518437208880) (l5 : ∀ s ∈ c.stacks, s.2.length ≤ 17592186044416) :
    Calls Try.prog 6 #[.agg #[.int .i64 c.W, .int .i64 c.H, .int .i64 c.height, vb, vp, vr, vs, .int .i64 c.unit, .int .i64 c.accel, .int .i64 c.speed, .int .i64 c.turn, .int .i64 c.hoist, .int .i64 c.queue, .int .i64 c.resend, .int .i64 c.budget, .bool c.back]] w fun e w' => ∃ r, e = .returned r ∧ r = .bool (smallN c && (newP c).isSome) ∧ Below w.heap.size w w' := by
  obtain ⟨a3, cap3, hv3, _⟩ := hA.r.form
  subst hv3
  have Q0 : One w #[.int .i64 c.W, .int .i64 c.H, .int .i64 c.height, vb, vp, .slice a3 c.robots.length cap3, vs, .int .i64 c.unit, .int .i64 c.accel, .int .i64 c.speed, .int .i64 c.turn, .int .i64 c.hoist, .int .i64 c.queue, .int .i64 c.resend, .int .i64 c.budget, .bool c.back] (w.alloc (.cells #[.int .i64 c.W, .int .i64 c.H, .int .i64 c.height, vb, vp, .slice a3 c.robots.length cap3, vs, .int .i64 c.unit, .int .i64 c.accel, .int .i64 c.speed, .int .i64 c.turn, .int .i64 c.hoist, .int .i64 c.queue, .int .i64 c.resend, .int .i64 c.budget, .bool c.back] 26)) := ⟨below_new (Below.refl _ _) _, heap_alloc_new w _⟩
  have cM := mayR_call (hA.go hF Q0.below) (fun b hb => Nat.lt_of_lt_of_le (hF b hb) Q0.below.size) l1 l2 l3 l4 l5
  have HS : Hid (smallN c = (decide (c.W ≤ 6) && decide (c.H ≤ 6) && decide (c.budget ≤ 4000) && decide (c.unit ≤ 100) && decide (c.turn ≤ 200) && decide (c.hoist ≤ 200) && decide (c.robots.length ≤ 4))) := rfl
  clear hA l5
  generalize (newP c).isSome = MB at *
  obtain ⟨nR, hnR⟩ : ∃ n, c.robots.length = n := ⟨_, rfl⟩
  rw [hnR] at Q0 cM HS l3 ⊢
  clear hnR
  have x0 := cell_of Q0.a 0
  have x1 := cell_of Q0.a 1
  have x5 := cell_of Q0.a 5
  have x7 := cell_of Q0.a 7
  have x10 := cell_of Q0.a 10
  have x11 := cell_of Q0.a 11
  have x14 := cell_of Q0.a 14
  have b0 := Q0.below
  by_cases g0 : c.W ≤ 6
  rotate_left
  · have HT : Hid ((smallN c && MB) = false) := by show (smallN c && MB) = false; rw [HS.out]; simp; omega
    go_enter Try.func6, Try.ntmps6
    go_wp2
    go_ret
    exact ⟨_, rfl, congrArg Value.bool HT.out.symm, b0⟩
  by_cases g1 : c.H ≤ 6
  rotate_left
  · have HT : Hid ((smallN c && MB) = false) := by show (smallN c && MB) = false; rw [HS.out]; simp; omega
    go_enter Try.func6, Try.ntmps6
    go_wp2
    go_ret
    exact ⟨_, rfl, congrArg Value.bool HT.out.symm, b0⟩
  by_cases g2 : c.budget ≤ 4000
  rotate_left
  · have HT : Hid ((smallN c && MB) = false) := by show (smallN c && MB) = false; rw [HS.out]; simp; omega
    go_enter Try.func6, Try.ntmps6
    go_wp2
    go_ret
    exact ⟨_, rfl, congrArg Value.bool HT.out.symm, b0⟩
  by_cases g3 : c.unit ≤ 100
  rotate_left
  · have HT : Hid ((smallN c && MB) = false) := by show (smallN c && MB) = false; rw [HS.out]; simp; omega
    go_enter Try.func6, Try.ntmps6
    go_wp2
    go_ret
    exact ⟨_, rfl, congrArg Value.bool HT.out.symm, b0⟩
  by_cases g4 : c.turn ≤ 200
  rotate_left
  · have HT : Hid ((smallN c && MB) = false) := by show (smallN c && MB) = false; rw [HS.out]; simp; omega
    go_enter Try.func6, Try.ntmps6
    go_wp2
    go_ret
    exact ⟨_, rfl, congrArg Value.bool HT.out.symm, b0⟩
  by_cases g5 : c.hoist ≤ 200
  rotate_left
  · have HT : Hid ((smallN c && MB) = false) := by show (smallN c && MB) = false; rw [HS.out]; simp; omega
    go_enter Try.func6, Try.ntmps6
    go_wp2
    go_ret
    exact ⟨_, rfl, congrArg Value.bool HT.out.symm, b0⟩
  by_cases g6 : (nR : Int) ≤ 4
  rotate_left
  · have HT : Hid ((smallN c && MB) = false) := by show (smallN c && MB) = false; rw [HS.out]; simp; omega
    go_enter Try.func6, Try.ntmps6
    go_wp2
    go_ret
    exact ⟨_, rfl, congrArg Value.bool HT.out.symm, b0⟩
  have HT : Hid ((smallN c && MB) = MB) := by
    show (smallN c && MB) = MB
    have : smallN c = true := by rw [HS.out]; simp; omega
    rw [this, Bool.true_and]
  go_enter Try.func6, Try.ntmps6
  go_wp2_with (first
    | (refine wpList_load_row rfl 26 (.tmp 1) rfl w.heap.size rfl 26 #[.int .i64 c.W, .int .i64 c.H, .int .i64 c.height, vb, vp, .slice a3 nR cap3, vs, .int .i64 c.unit, .int .i64 c.accel, .int .i64 c.speed, .int .i64 c.turn, .int .i64 c.hoist, .int .i64 c.queue, .int .i64 c.resend, .int .i64 c.budget, .bool c.back] (0, 0) _ Q0.a Try.underlying26 rfl info_conf ?_)
    | (go_at_call 9; refine cM.mono ?_; rintro e w1 ⟨r1, rfl, rfl, b1⟩))
  go_ret
  exact ⟨_, rfl, congrArg Value.bool HT.out.symm, bcat b0 b1 (Nat.le_refl _)⟩
end Go.Proofs.Ytabbdclpjghdbaa.Stk
namespace Go.Proofs.Ytabbdclpjghdbaa.Stk
set_option linter.unusedVariables false
set_option linter.unusedSimpArgs false
open Go Go.RowKit Go.Shelf Go.Proofs Go.Proofs.Ytabbdclpjghdbaa.Grid
attribute [local go_sem] Oper.semAt_some

theorem results_cell_tmps {fn : Func} {p q r : Tmp} {ty : TypeId} (h : fn.results = #[.cell p ty, .tmp q, .tmp r]) (tmps : Array Value) (w : World) (N : Nat) (cs : Array Value)
    (hp : tmps.getD p undef = .pointer (some ⟨N, 0, none⟩)) (hg : (loadVar ty ⟨N, 0, none⟩).run Try.prog w = .ok (.agg cs) w) :
    (results fn tmps).run Try.prog w = .ok (.tuple #[.agg cs, tmps.getD q undef, tmps.getD r undef]) w := by
  have hp' : tmps[p]?.getD undef = .pointer (some ⟨N, 0, none⟩) := by simpa using hp
  simp [results, h, hp', asAddr, hg]
theorem load_cell (w : World) (g : Nat) (cs : Array Value) (hs : cs.size = 2) (h : w.heap[g]? = some (.cells cs 39 (0, 0))) : (loadVar 39 ⟨g, 0, none⟩).run Try.prog w = .ok (.agg cs) w :=
  run_loadVar_row w g 39 39 cs (0, 0) _ h Try.underlying39 rfl (by rw [hs]; exact infoCell2)
/- Two boxes for cells, and the stacks. -/
structure Fd (w : World) (K : Sk) (c : Conf) (us : List Int) (ps : List Pile) (ls : List Int) (wr : World) : Prop where
  st : StAt K c us ps ls wr
  below : Below w.heap.size w wr
  r : wr.heap[w.heap.size]? = some (.cells #[.int .i64 0, .int .i64 0] 39 (0, 0))
  a : wr.heap[w.heap.size + 1]? = some (.cells #[.int .i64 0, .int .i64 0] 39 (0, 0))
theorem Fd.go {w : World} {K : Sk} {c : Conf} {us : List Int} {ps : List Pile} {ls : List Int} {wr u : World} (h : Fd w K c us ps ls wr) (hb : Below wr.heap.size wr u) : Fd w K c us ps ls u :=
  ⟨h.st.go hb, bcat h.below hb (Nat.le_refl _), (hb.block _ (lt_of_heap h.r)).trans h.r, (hb.block _ (lt_of_heap h.a)).trans h.a⟩
def Found (ps : List Pile) (bin : Int) (x : Cell) (up : Int) : Prop := ∃ (i j : Nat) (p : Pile), ps[i]? = some p ∧ p.1 = x ∧ p.2.2[j]? = some bin ∧ up = (p.2.2.length : Int) - 1 - (j : Nat) ∧ (∀ (i' : Nat) (q : Pile), i' < i → ps[i']? = some q → bin ∉ q.2.2) ∧ ∀ j', j' < j → p.2.2[j']? ≠ some bin
set_option maxRecDepth 100000 in
set_option maxHeartbeats 4000000 in
theorem find_any {K : Sk} {c : Conf} {us : List Int} {ps : List Pile} {ls : List Int} {w : World} (h : StAt K c us ps ls w) (bin : Int) : Calls Try.prog 25 #[.pointer (some ⟨K.s, 0, none⟩), .int .i64 bin] w fun e w' => Below w.heap.size w w' ∧ ((∃ x up, e = .returned (.tuple #[.agg #[.int .i64 x.1, .int .i64 x.2], .int .i64 up, .bool true]) ∧ Found ps bin x up) ∨
    (e = .returned (.tuple #[.agg #[.int .i64 0, .int .i64 0], .int .i64 0, .bool false]) ∧ ∀ (i : Nat) (p : Pile), ps[i]? = some p → bin ∉ p.2.2)) := by
  have hN := h.lens
  obtain ⟨N, hNN⟩ : ∃ N, ps.length = N := ⟨_, rfl⟩
  have HN : Hid (ps.length = N) := hNN
  rw [hNN] at hN
  obtain ⟨w0, hw0⟩ : ∃ w0, w0 = (w.alloc (.cells #[.int .i64 0, .int .i64 0] 39)).alloc (.cells #[.int .i64 0, .int .i64 0] 39) := ⟨_, rfl⟩
  have HW0 : Hid (w0 = (w.alloc (.cells #[.int .i64 0, .int .i64 0] 39)).alloc (.cells #[.int .i64 0, .int .i64 0] 39)) := hw0
  have bw : Below w.heap.size w w0 := by rw [hw0]; exact below_two _ _ _
  have F0 : Fd w K c us ps ls w0 := ⟨h.go bw, bw, by rw [hw0]; exact (alloc_old _ _ _ (by simp)).trans (heap_alloc_new w _), by rw [hw0]; exact heap_new2 _ _ _⟩
  have HF0 : Hid (Fd w K c us ps ls w0) := F0
  have y2 : ((w.alloc (.cells #[.int .i64 0, .int .i64 0] 39)).alloc (.cells #[.int .i64 0, .int .i64 0] 39)).cell? ⟨K.s, 2, none⟩ = some (.slice (some ⟨K.pb, 0, none⟩) N N) := by have := F0.st.c2; rw [hNN, hw0] at this; exact this
  clear hNN h F0 bw hw0
  go_enter Try.func25, Try.ntmps25
  go_wp2
  go_step3
  go_wp2_with (refine wp_label ?_)
  rw [← HW0.out]
  clear y2
  go_loopw [8, 9, 19] (fun a b i wq => a = .int .i64 0 ∧ b = .bool false ∧ ∃ k : Nat, k ≤ N ∧ i = .int .i64 k ∧ Hid (Fd w K c us ps ls wq) ∧ Hid (∀ (i' : Nat) (q : Pile), i' < k → ps[i']? = some q → bin ∉ q.2.2)) (fun _ _ i _ => N - (intOf i).toNat)
  case atStart => exact ⟨rfl, rfl, 0, Nat.zero_le _, rfl, HF0, fun i' q h => by omega⟩
  case round =>
    clear HF0 HW0
    obtain ⟨rfl, rfl, k, hk, rfl, HFd, HNo⟩ := hrel
    by_cases hlt : k < N
    · obtain ⟨p, hp⟩ : ∃ p, ps[k]? = some p := ⟨_, List.getElem?_eq_getElem (by rw [HN.out]; exact hlt)⟩
      have HP : Hid (ps[k]? = some p) := hp
      have S1 := HFd.out.st
      obtain ⟨pa, pcap, ev, _, _, hcl⟩ := S1.form hp
      have hsm := S1.small _ _ hp
      have hrd : ∀ j z, #[Value.int .i64 p.1.1, .int .i64 p.1.2, .slice pa p.2.2.length pcap][j]? = some z → wr.cell? ((⟨K.pb, k * 3, none⟩ : Addr).add j) = some z := fun j z hj => by
        rw [Addr.add_lit]
        exact S1.pc hp j z (by rw [← ev] at hj; simpa [pileL] using hj)
      have HCL : Hid (∀ j, j < p.2.2.length → ∃ gb, pa = some ⟨gb, 0, none⟩ ∧ wr.cell? ⟨gb, j, none⟩ = some (.int .i64 (p.2.2.getD j 0))) := hcl
      obtain ⟨n, hn⟩ : ∃ n, p.2.2.length = n := ⟨_, rfl⟩
      have Hn : Hid (p.2.2.length = n) := hn
      rw [hn] at hrd HCL hsm
      obtain ⟨x, hx⟩ : ∃ x, p.1.1 = x := ⟨_, rfl⟩
      obtain ⟨y, hy⟩ : ∃ y, p.1.2 = y := ⟨_, rfl⟩
      have HXY : Hid (p.1 = (x, y)) := by show p.1 = (x, y); rw [← hx, ← hy]
      rw [hx, hy] at hrd
      clear hn hx hy S1 ev hp hcl
      obtain ⟨wb, hwb⟩ : ∃ wb, wb = wr.alloc (.cells #[.int .i64 x, .int .i64 y, .slice pa n pcap] 59) := ⟨_, rfl⟩
      have HWB : Hid (wb = wr.alloc (.cells #[.int .i64 x, .int .i64 y, .slice pa n pcap] 59)) := hwb
      have bb : Below wr.heap.size wr wb := by rw [hwb]; exact below_new (Below.refl _ _) _
      have eb : wb.heap[wr.heap.size]? = some (.cells #[.int .i64 x, .int .i64 y, .slice pa n pcap] 59 (0, 0)) := by rw [hwb]; exact heap_alloc_new wr _
      have HFb : Hid (Fd w K c us ps ls wb) := HFd.out.go bb
      obtain ⟨IW, hIW⟩ : ∃ I : World → Prop, I = Below wb.heap.size wb := ⟨_, rfl⟩
      have kW : ∀ u, IW u → Below wb.heap.size wb u := fun u hu => by rw [hIW] at hu; exact hu
      have HW1 : Hid (IW wb) := by show IW wb; rw [hIW]; exact Below.refl _ _
      have HCb : Hid (∀ u, IW u → ∀ j, j < n → ∃ gb, pa = some ⟨gb, 0, none⟩ ∧ u.cell? ⟨gb, j, none⟩ = some (.int .i64 (p.2.2.getD j 0))) := fun u hu j hj => by
        obtain ⟨gb, q1, q2⟩ := HCL.out j hj
        exact ⟨gb, q1, cell_below (cell_below q2 bb) (kW u hu)⟩
      obtain ⟨bx, hbx⟩ : ∃ bx, wr.heap.size = bx := ⟨_, rfl⟩
      have HBX : Hid (wr.heap.size = bx) := hbx
      rw [hbx] at eb
      clear HCL hwb bb HFd
      go_wp2_with (first
        | (refine wpList_load_at rfl 59 (.tmp 21) rfl ⟨K.pb, k * 3, none⟩ rfl #[.int .i64 x, .int .i64 y, .slice pa n pcap] hrd (aggStack _) info_stack ?_))
      rw [← HWB.out]
      clear HWB HBX hrd hbx
      go_loopw [8, 9, 26] (fun a b i wq => a = .int .i64 0 ∧ b = .bool false ∧ ∃ j : Nat, j ≤ n ∧ i = .int .i64 j ∧ Hid (IW wq) ∧ Hid (∀ j', j' < j → p.2.2[j']? ≠ some bin)) (fun _ _ i _ => n - (intOf i).toNat)
      case atStart => exact ⟨rfl, rfl, 0, Nat.zero_le _, rfl, HW1, fun j' h => by omega⟩
      case round =>
        clear HW1
        obtain ⟨rfl, rfl, j, hj, rfl, HI, HJ⟩ := hrel
        by_cases hjn : j < n
        · obtain ⟨gb, rfl, hcj⟩ := HCb.out _ HI.out j hjn
          have HG : Hid (p.2.2[j]? = some (p.2.2.getD j 0)) := by
            show p.2.2[j]? = some (p.2.2.getD j 0)
            rw [List.getD_eq_getElem?_getD, List.getElem?_eq_getElem (by rw [Hn.out]; exact hjn)]
            rfl
          generalize p.2.2.getD j 0 = z at *
          by_cases hz : z = bin
          · subst hz
            have HFo : Hid (Found ps z (x, y) ((n : Int) - 1 - (j : Nat))) := ⟨k, j, p, HP.out, HXY.out, HG.out, by rw [Hn.out], HNo.out, HJ.out⟩
            have FF := HFb.out.go (kW _ HI.out)
            have e1 := ((kW _ HI.out).block _ (lt_of_heap eb)).trans eb
            go_wp2
            obtain ⟨IV, hIV⟩ : ∃ I : World → Prop, I = fun u => u.heap[bx]? = some (.cells #[.int .i64 x, .int .i64 y, .slice (some ⟨gb, 0, none⟩) n pcap] 59 (0, 0)) := ⟨_, rfl⟩
            have qx : ∀ u, IV u → ∀ jj zz, #[Value.int .i64 x, .int .i64 y][jj]? = some zz → u.cell? ((⟨bx, 0, none⟩ : Addr).add jj) = some zz := fun u hu jj zz hjj => by
              rw [hIV] at hu
              rw [Addr.add_lit, cell_of hu]
              match jj with
              | 0 => simpa using hjj
              | 1 => simpa using hjj
              | jj + 2 => simp at hjj
            have qs : ∀ u, IV u → u.cell? ⟨bx, 2, none⟩ = some (.slice (some ⟨gb, 0, none⟩) n pcap) := fun u hu => by rw [hIV] at hu; exact cell_of hu 2
            have hV : IV wr.drew := by rw [hIV]; exact e1
            have FD := FF.go (Below.refl wr.heap.size wr).drew
            have ea := FD.a
            have er := FD.r
            have hbne : bx ≠ w.heap.size + 1 := fun e => by
              have h1 := e1
              rw [e, FF.a] at h1
              simp at h1
            have hV9 : IV ((wr.drew.setCell ⟨w.heap.size + 1, 0, none⟩ (.int .i64 x)).setCell ⟨w.heap.size + 1, 0 + 1, none⟩ (.int .i64 y)) := by
              rw [hIV]
              exact (heap_setCell_other _ _ _ _ hbne).trans ((heap_setCell_other _ _ _ _ hbne).trans e1)
            have ea9 : ((wr.drew.setCell ⟨w.heap.size + 1, 0, none⟩ (.int .i64 x)).setCell ⟨w.heap.size + 1, 0 + 1, none⟩ (.int .i64 y)).heap[w.heap.size + 1]? = some (.cells #[.int .i64 x, .int .i64 y] 39 (0, 0)) := by
              rw [heap_setCell_same _ _ _ _ _ _ (heap_setCell_same _ _ _ _ _ _ ea)]
              rfl
            have er9 : ((wr.drew.setCell ⟨w.heap.size + 1, 0, none⟩ (.int .i64 x)).setCell ⟨w.heap.size + 1, 0 + 1, none⟩ (.int .i64 y)).heap[w.heap.size]? = some (.cells #[.int .i64 0, .int .i64 0] 39 (0, 0)) := (heap_setCell_other _ _ _ _ (by simp)).trans ((heap_setCell_other _ _ _ _ (by simp)).trans er)
            have b9 : Below w.heap.size w ((wr.drew.setCell ⟨w.heap.size + 1, 0, none⟩ (.int .i64 x)).setCell ⟨w.heap.size + 1, 0 + 1, none⟩ (.int .i64 y)) := below_set (below_set FD.below (by omega) _ _) (by omega) _ _
            clear FF er
            refine start_held (S := IV) 11 rfl (by kernel_rfl) (hV) ?_
            simp only [Array.replicate_succ, Array.replicate_zero, List.push_toArray, List.nil_append, List.cons_append]
            refine take_held 0 (by assumption) rfl (by kernel_rfl) (by kernel_rfl) (by kernel_rfl) (fun _ _ _ h => h) (by kernel_rfl) (v := ?v0) ?y0 ?r0
            case y0 => (intro u hu; go_simp; try rfl)
            simp only [Act.put, List.setIfInBounds_toArray, List.set_cons_zero, List.set_cons_succ]
            refine take_held 1 (by assumption) rfl (by kernel_rfl) (by kernel_rfl) (by kernel_rfl) (fun _ _ _ h => h) (by kernel_rfl) (v := .agg #[.int .i64 x, .int .i64 y]) ?y1 ?r1
            case y1 => (intro u hu; exact run_load_op 39 _ rfl ⟨bx, 0, none⟩ _ rfl (qx u hu) (aggCell u) infoCell2)
            simp only [Act.put, List.setIfInBounds_toArray, List.set_cons_zero, List.set_cons_succ]
            refine take_held 2 (by assumption) rfl (by kernel_rfl) (by kernel_rfl) (by kernel_rfl) (fun _ _ _ h => h) (by kernel_rfl) (v := ?v2) ?y2 ?r2
            case y2 => (intro u hu; go_simp; try rfl)
            simp only [Act.put, List.setIfInBounds_toArray, List.set_cons_zero, List.set_cons_succ]
            refine take_held 3 (by assumption) rfl (by kernel_rfl) (by kernel_rfl) (by kernel_rfl) (fun _ _ _ h => h) (by kernel_rfl) (v := ?v3) ?y3 ?r3
            case y3 => (intro u hu; have zz0 := qs u hu; go_simp; try rfl)
            simp only [Act.put, List.setIfInBounds_toArray, List.set_cons_zero, List.set_cons_succ]
            refine take_held 4 (by assumption) rfl (by kernel_rfl) (by kernel_rfl) (by kernel_rfl) (fun _ _ _ h => h) (by kernel_rfl) (v := ?v4) ?y4 ?r4
            case y4 => (intro u hu; go_simp; try rfl)
            simp only [Act.put, List.setIfInBounds_toArray, List.set_cons_zero, List.set_cons_succ]
            refine take_held 5 (by assumption) rfl (by kernel_rfl) (by kernel_rfl) (by kernel_rfl) (fun _ _ _ h => h) (by kernel_rfl) (v := .int .i64 ((n : Int) - 1)) ?y5 ?r5
            case y5 => (intro u hu; have hw : IntKind.i64.wrap ((n : Int) - 1) = (n : Int) - 1 := (by rw [IntKind.wrap_i64]; omega); go_simp; try rw [hw])
            simp only [Act.put, List.setIfInBounds_toArray, List.set_cons_zero, List.set_cons_succ]
            refine take_held 6 (by assumption) rfl (by kernel_rfl) (by kernel_rfl) (by kernel_rfl) (fun _ _ _ h => h) (by kernel_rfl) (v := ?v6) ?y6 ?r6
            case y6 => (intro u hu; go_simp; try rfl)
            simp only [Act.put, List.setIfInBounds_toArray, List.set_cons_zero, List.set_cons_succ]
            refine take_held 7 (by assumption) rfl (by kernel_rfl) (by kernel_rfl) (by kernel_rfl) (fun _ _ _ h => h) (by kernel_rfl) (v := .int .i64 ((n : Int) - 1 - (j : Nat))) ?y7 ?r7
            case y7 => (intro u hu; have hw : IntKind.i64.wrap ((n : Int) - 1 - (j : Nat)) = (n : Int) - 1 - (j : Nat) := (by rw [IntKind.wrap_i64]; omega); go_simp; try rw [hw])
            simp only [Act.put, List.setIfInBounds_toArray, List.set_cons_zero, List.set_cons_succ]
            refine wpAnyH_ready (rs := [8]) (by kernel_rfl) (by simp) (AllReadyH.cons ((nth_eq _ 8).trans rfl) ?_ AllReadyH.nil)
            intro K' hK
            refine skip_in hK (by kernel_rfl) ((wr.drew.setCell ⟨w.heap.size + 1, 0, none⟩ (.int .i64 x)).setCell ⟨w.heap.size + 1, 0 + 1, none⟩ (.int .i64 y)) (run_store_cell _ _ rfl (w.heap.size + 1) 0 x y _ _ rfl rfl ea (by simp)) (hV9) ?_
            simp only [Act.put, List.setIfInBounds_toArray, List.set_cons_zero, List.set_cons_succ]
            refine take_held 9 (by assumption) rfl (by kernel_rfl) (by kernel_rfl) (by kernel_rfl) (fun _ _ _ h => h) (by kernel_rfl) (v := ?v8) ?y8 ?r8
            case y8 => (intro u hu; go_simp; try rfl)
            simp only [Act.put, List.setIfInBounds_toArray, List.set_cons_zero, List.set_cons_succ]
            refine take_held 10 (by assumption) rfl (by kernel_rfl) (by kernel_rfl) (by kernel_rfl) (fun _ _ _ h => h) (by kernel_rfl) (v := ?v9) ?y9 ?r9
            case y9 => (intro u hu; go_simp; try rfl)
            simp only [Act.put, List.setIfInBounds_toArray, List.set_cons_zero, List.set_cons_succ]
            refine done_held (by kernel_rfl) ?_ _
            obtain ⟨wf, hwf⟩ : ∃ wf, wf = (wr.drew.setCell ⟨w.heap.size + 1, 0, none⟩ (.int .i64 x)).setCell ⟨w.heap.size + 1, 0 + 1, none⟩ (.int .i64 y) := ⟨_, rfl⟩
            rw [← hwf] at ea9 er9 b9 ⊢
            clear hwf hV9 hV FD ea e1
            go_wp2_with (first
              | (refine wpList_load_row rfl 39 (.tmp 7) rfl (w.heap.size + 1) rfl 39 #[.int .i64 x, .int .i64 y] (0, 0) _ ea9 Try.underlying39 rfl infoCell2 ?_)
              | (refine wpList_store_row rfl 39 (.tmp 4) (.tmp 44) rfl w.heap.size #[.int .i64 x, .int .i64 y] rfl rfl 39 #[.int .i64 0, .int .i64 0] er9 infoCell2 rfl (by simp [Value.oneCell']) ?_))
            exact noGoto_ret (bodyPost_ret (results_cell_tmps Try.results25 _ _ w.heap.size _ rfl (load_cell _ _ _ rfl (setRow_heap _ _ _ _ _ _ er9))) rfl ⟨below_row b9 (by omega) _, Or.inl ⟨(x, y), _, rfl, HFo.out⟩⟩)
          · have hz2 : (z == bin) = false := by rw [beq_eq_false_iff_ne]; exact hz
            have HJ9 : Hid (∀ j', j' < j + 1 → p.2.2[j']? ≠ some bin) := fun j' hj' e => by
              by_cases q : j' < j
              · exact HJ.out j' q e
              · obtain rfl : j' = j := by omega
                rw [HG.out] at e
                exact hz (Option.some.inj e)
            go_wp2
            go_roundw
            case rel => exact ⟨rfl, rfl, j + 1, by omega, by go_num, HI, HJ9⟩
            case measure => simp [intOf]; omega
        · obtain rfl : n = j := by omega
          have HNo9 : Hid (∀ (i' : Nat) (q : Pile), i' < k + 1 → ps[i']? = some q → bin ∉ q.2.2) := fun i' q hi hq hm => by
            by_cases hi2 : i' < k
            · exact HNo.out i' q hi2 hq hm
            · obtain rfl : i' = k := by omega
              rw [HP.out] at hq
              cases hq
              obtain ⟨j', hj', e⟩ := List.getElem_of_mem hm
              exact HJ.out j' (by rw [← Hn.out]; exact hj') (by rw [List.getElem?_eq_getElem hj', e])
          have HF9 : Hid (Fd w K c us ps ls wr) := HFb.out.go (kW _ HI.out)
          clear HFb HCb
          go_wp2
          go_roundw
          case rel => exact ⟨rfl, rfl, k + 1, by omega, by go_num, HF9, HNo9⟩
          case measure => simp [intOf]; omega
    · obtain rfl : N = k := by omega
      have HNo9 : Hid (∀ (i' : Nat) (q : Pile), ps[i']? = some q → bin ∉ q.2.2) := fun i' q hq => HNo.out i' q (by rw [← HN.out]; exact (List.getElem?_eq_some_iff.1 hq).1) hq
      have er := HFd.out.r
      have ea := HFd.out.a
      have b9 := HFd.out.below
      clear HFd HNo
      go_wp2_with (first
        | (refine wpList_load_row rfl 39 (.tmp 7) rfl (w.heap.size + 1) rfl 39 #[.int .i64 0, .int .i64 0] (0, 0) _ ea Try.underlying39 rfl infoCell2 ?_)
        | (refine wpList_store_row rfl 39 (.tmp 4) (.tmp 44) rfl w.heap.size #[.int .i64 0, .int .i64 0] rfl rfl 39 #[.int .i64 0, .int .i64 0] er infoCell2 rfl (by simp [Value.oneCell']) ?_))
      exact noGoto_ret (bodyPost_ret (results_cell_tmps Try.results25 _ _ w.heap.size _ rfl (load_cell _ _ _ rfl (setRow_heap _ _ _ _ _ _ er))) rfl ⟨below_row b9 (by omega) _, Or.inr ⟨rfl, HNo9.out⟩⟩)
end Go.Proofs.Ytabbdclpjghdbaa.Stk
namespace Go.Proofs.Ytabbdclpjghdbaa.Stk
set_option linter.unusedVariables false
set_option linter.unusedSimpArgs false
open Go Go.RowKit Go.Shelf Go.Proofs Go.Proofs.Ytabbdclpjghdbaa.Grid
attribute [local go_sem] Oper.semAt_some

def conf8 : Conf := { W := 3, H := 2, height := 2, blocked := [], ports := [], robots := [((0, 1), false)], stacks := [((0, 0), [7, 8])], unit := 1, accel := 1, speed := 1, turn := 1, hoist := 1, queue := 1, resend := 1, budget := 1, back := false }
theorem new8 : ∃ G, newP conf8 = some G := by
  have : (newP conf8).isSome = true := by decide +kernel
  cases e : newP conf8 with
  | none => rw [e] at this; cases this
  | some G => exact ⟨G, rfl⟩
theorem list_row {α : Type} {f : α → List Value} {S : Nat} (hf : ∀ x, (f x).length = S) {w : World} {g : Nat} {t : TypeId} {xs : List α} (h : w.heap[g]? = some (.cells (rowL f xs).toArray t (0, 0))) : ListAt S (ElL f) (fun b => b = g) xs (.slice (some ⟨g, 0, none⟩) xs.length xs.length) w := by
  refine ⟨some ⟨g, 0, none⟩, xs.length, xs.map fun x => (x, (f x).toArray), by rw [List.map_map]; exact (List.map_id' xs).symm, by simp, fun y hy => ?_, fun i hi => ⟨_, rfl, rfl, fun j u hj => ?_⟩, fun h => by cases h⟩
  · obtain ⟨x, _, rfl⟩ := List.mem_map.1 hy
    rfl
  · rw [List.length_map] at hi
    simp only [List.getElem_map, List.getElem?_toArray] at hj
    rw [Addr.add_lit, Nat.zero_add, cell_of h, List.getElem?_toArray]
    exact rowL_at hf xs i hi j u hj
theorem heap3 (w : World) (a b c : Obj) : (((w.alloc a).alloc b).alloc c).heap[w.heap.size]? = some a ∧ (((w.alloc a).alloc b).alloc c).heap[w.heap.size + 1]? = some b ∧ (((w.alloc a).alloc b).alloc c).heap[w.heap.size + 1 + 1]? = some c := by
  refine ⟨(alloc_old _ _ _ (by simp; omega)).trans ((alloc_old _ _ _ (by simp)).trans (heap_alloc_new w a)), (alloc_old _ _ _ (by simp)).trans (heap_new2 w a b), ?_⟩
  have := heap_alloc_new ((w.alloc a).alloc b) c
  rw [show ((w.alloc a).alloc b).heap.size = w.heap.size + 1 + 1 by simp] at this
  exact this
theorem conf8_at (w : World) : ConfAt (fun b => w.heap.size ≤ b ∧ b < w.heap.size + 3) conf8 (.slice none 0 0) (.slice none 0 0) (.slice (some ⟨w.heap.size, 0, none⟩) 1 1) (.slice (some ⟨w.heap.size + 1 + 1, 0, none⟩) 1 1) (((w.alloc (.cells #[.int .i64 0, .int .i64 1, .bool false] 72)).alloc (.cells #[.int .i64 7, .int .i64 8] 3)).alloc (.cells #[.int .i64 0, .int .i64 0, .slice (some ⟨w.heap.size + 1, 0, none⟩) 2 2] 59)) := by
  obtain ⟨h1, h2, h3⟩ := heap3 w (.cells #[.int .i64 0, .int .i64 1, .bool false] 72) (.cells #[.int .i64 7, .int .i64 8] 3) (.cells #[.int .i64 0, .int .i64 0, .slice (some ⟨w.heap.size + 1, 0, none⟩) 2 2] 59)
  have LB : ListAt 1 (ElL intL) (fun b => b = w.heap.size + 1) [7, 8] (.slice (some ⟨w.heap.size + 1, 0, none⟩) 2 2) (((w.alloc (.cells #[.int .i64 0, .int .i64 1, .bool false] 72)).alloc (.cells #[.int .i64 7, .int .i64 8] 3)).alloc (.cells #[.int .i64 0, .int .i64 0, .slice (some ⟨w.heap.size + 1, 0, none⟩) 2 2] 59)) := list_row (f := intL) (fun _ => rfl) h2
  have LA : ListAt 3 (ElL poseL) (fun b => b = w.heap.size) [((0, 1), false)] (.slice (some ⟨w.heap.size, 0, none⟩) 1 1) (((w.alloc (.cells #[.int .i64 0, .int .i64 1, .bool false] 72)).alloc (.cells #[.int .i64 7, .int .i64 8] 3)).alloc (.cells #[.int .i64 0, .int .i64 0, .slice (some ⟨w.heap.size + 1, 0, none⟩) 2 2] 59)) := list_row (f := poseL) (fun _ => rfl) h1
  refine ⟨ListAt.nil _ _ _ _, ListAt.nil _ _ _ _, LA.mono heldPose (fun b hb => by rw [hb]; omega), ?_⟩
  refine ⟨some ⟨w.heap.size + 1 + 1, 0, none⟩, 1, [(((0, 0), [7, 8]), #[.int .i64 0, .int .i64 0, .slice (some ⟨w.heap.size + 1, 0, none⟩) 2 2])], rfl, rfl, fun y hy => ?_, fun i hi => ⟨_, rfl, by simp only; omega, fun j u hj => ?_⟩, fun h => by cases h⟩
  · rw [List.mem_singleton.1 hy]
    exact ⟨_, rfl, LB.mono heldInt (fun b hb => by rw [hb]; omega)⟩
  · obtain rfl : i = 0 := by simp at hi; omega
    rw [Addr.add_lit, cell_of h3]
    simpa using hj
theorem placed8 (x : Cell) : placed conf8.stacks x = if x = (0, 0) then [7, 8] else [] := by
  unfold placed conf8
  simp only
  by_cases e : x = (0, 0)
  · subst e; rfl
  · rw [if_neg e, List.filter_cons_of_neg (by rw [decide_eq_true_eq]; exact fun h => e h.symm)]
    rfl
theorem found8 {ps : List Pile} (hp : ∀ (i : Nat) (p : Pile), ps[i]? = some p → p.2.2 = placed conf8.stacks p.1) {x : Cell} {up : Int} (h : Found ps 7 x up) : x = (0, 0) ∧ up = 1 := by
  obtain ⟨i, j, p, h1, h2, h3, h4, _, _⟩ := h
  have e := hp i p h1
  rw [placed8] at e
  by_cases q : p.1 = (0, 0)
  · rw [if_pos q] at e
    rw [e] at h3 h4
    refine ⟨h2.symm.trans q, ?_⟩
    match j with
    | 0 => rw [h4]; rfl
    | 1 => simp at h3
    | j + 2 => simp at h3
  · rw [if_neg q] at e
    rw [e] at h3
    simp at h3
theorem In8 : In conf8.W conf8.H (0, 0) := by decide
theorem num8 : number conf8.W conf8.H (0, 0) = ((0 : Nat) : Int) := by decide +kernel
theorem open8 {G : GS} (h : newP conf8 = some G) : openU conf8.W conf8.H G.uses (0, 0) = true := by
  rw [open_same h]
  decide +kernel
theorem StAt.foot_lt {K : Sk} {c : Conf} {us : List Int} {ps : List Pile} {ls : List Int} {w : World} (h : StAt K c us ps ls w) : ∀ b, Foot K ps b → b < w.heap.size := by
  rintro b (rfl | rfl | ⟨i, p, hp, hb⟩)
  · exact lt_of_heap h.pil
  · exact lt_of_heap h.lds
  · exact ((h.own i p hp).lt b hb).2
theorem pile8 {K : Sk} {us : List Int} {ps : List Pile} {ls : List Int} {w : World} (h : StAt K conf8 us ps ls w) (hat : ∀ (i : Nat) (p : Pile), ps[i]? = some p → p.2.2 = placed conf8.stacks p.1) : ∃ p, ps[0]? = some p ∧ p.2.2 = [7, 8] := by
  obtain ⟨k, p, hk, _, hlt, hp, hpx⟩ := h.num In8
  rw [num8] at hk
  obtain rfl : k = 0 := by omega
  refine ⟨p, hp, ?_⟩
  rw [hat 0 p hp, placed8, hpx, if_pos rfl]
theorem find8 {K : Sk} {us : List Int} {ps : List Pile} {ls : List Int} {w : World} (h : StAt K conf8 us ps ls w) (hat : ∀ (i : Nat) (p : Pile), ps[i]? = some p → p.2.2 = placed conf8.stacks p.1) : Calls Try.prog 25 #[.pointer (some ⟨K.s, 0, none⟩), .int .i64 7] w fun e w' => e = .returned (.tuple #[.agg #[.int .i64 0, .int .i64 0], .int .i64 1, .bool true]) ∧ Below w.heap.size w w' :=
  (find_any h 7).mono fun e w' ⟨b, q⟩ => by
    rcases q with ⟨x, up, rfl, f⟩ | ⟨rfl, f⟩
    · obtain ⟨rfl, rfl⟩ := found8 hat f
      exact ⟨rfl, b⟩
    · obtain ⟨p, hp, e⟩ := pile8 h hat
      exact absurd (show (7 : Int) ∈ p.2.2 by rw [e]; simp) (f 0 p hp)
theorem lift8 {K : Sk} {G : GS} (hG : newP conf8 = some G) {ps : List Pile} {w : World} (h : StAt K conf8 G.uses ps [0] w) {p : Pile} (hp : ps[0]? = some p) (hb : p.2.2 = [7, 8]) : Calls Try.prog 13 #[.pointer (some ⟨K.s, 0, none⟩), .int .i64 0, .agg #[.int .i64 0, .int .i64 0]] w fun e w' => ∃ v', e = .returned (.tuple #[.int .i64 8, .int .i64 0]) ∧ StAt K conf8 G.uses (ps.set 0 (p.1, v', [7])) [8] w' ∧ Turn K ps (ps.set 0 (p.1, v', [7])) w w' := by
  have := lift_ok h 0 0 0 (by decide) (open8 hG) (by decide) num8 hp (by rw [hb]; simp)
  rw [hb] at this
  exact this
theorem top8 {K : Sk} {G : GS} (hG : newP conf8 = some G) {ps : List Pile} {ls : List Int} {w : World} {p : Pile} {v' : Value} (h : StAt K conf8 G.uses (ps.set 0 (p.1, v', [7])) ls w) (hp : ps[0]? = some p) : Calls Try.prog 19 #[.pointer (some ⟨K.s, 0, none⟩), .agg #[.int .i64 0, .int .i64 0]] w fun e w' => ∃ v, e = .returned v ∧ v = .int .i64 7 ∧ Below w.heap.size w w' :=
  top_yes h 0 0 (open8 hG) num8 (p := (p.1, v', [7])) (by rw [List.getElem?_set, if_pos rfl, if_pos (List.getElem?_eq_some_iff.1 hp).1])
theorem load8 {K : Sk} {us : List Int} {ps : List Pile} {w : World} (h : StAt K conf8 us ps [8] w) : Calls Try.prog 40 #[.pointer (some ⟨K.s, 0, none⟩), .int .i64 0] w fun e w' => ∃ v, e = .returned v ∧ v = .int .i64 8 ∧ Below w.heap.size w w' := load_any h 0
set_option maxRecDepth 100000 in
set_option maxHeartbeats 4000000 in
theorem awake8_any (w : World) : Calls Try.prog 10 #[] w fun e w' => ∃ v, e = .returned v ∧ v = .bool true ∧ Below w.heap.size w w' := by
  obtain ⟨G, hG⟩ := new8
  have bD : Below (((w.alloc (.cells #[.int .i64 0, .int .i64 1, .bool false] 72)).alloc (.cells #[.int .i64 7, .int .i64 8] 3)).alloc (.cells #[.int .i64 0, .int .i64 0, .slice (some ⟨w.heap.size + 1, 0, none⟩) 2 2] 59)).heap.size (((w.alloc (.cells #[.int .i64 0, .int .i64 1, .bool false] 72)).alloc (.cells #[.int .i64 7, .int .i64 8] 3)).alloc (.cells #[.int .i64 0, .int .i64 0, .slice (some ⟨w.heap.size + 1, 0, none⟩) 2 2] 59)) ((((w.alloc (.cells #[.int .i64 0, .int .i64 1, .bool false] 72)).alloc (.cells #[.int .i64 7, .int .i64 8] 3)).alloc (.cells #[.int .i64 0, .int .i64 0, .slice (some ⟨w.heap.size + 1, 0, none⟩) 2 2] 59)).alloc (.cells #[.int .i64 3, .int .i64 2, .int .i64 2, .slice none 0 0, .slice none 0 0, .slice (some ⟨w.heap.size, 0, none⟩) 1 1, .slice (some ⟨w.heap.size + 1 + 1, 0, none⟩) 1 1, .int .i64 1, .int .i64 1, .int .i64 1, .int .i64 1, .int .i64 1, .int .i64 1, .int .i64 1, .int .i64 1, .bool false] 26)) := below_new (Below.refl _ _) _
  have bW : Below w.heap.size w ((((w.alloc (.cells #[.int .i64 0, .int .i64 1, .bool false] 72)).alloc (.cells #[.int .i64 7, .int .i64 8] 3)).alloc (.cells #[.int .i64 0, .int .i64 0, .slice (some ⟨w.heap.size + 1, 0, none⟩) 2 2] 59)).alloc (.cells #[.int .i64 3, .int .i64 2, .int .i64 2, .slice none 0 0, .slice none 0 0, .slice (some ⟨w.heap.size, 0, none⟩) 1 1, .slice (some ⟨w.heap.size + 1 + 1, 0, none⟩) 1 1, .int .i64 1, .int .i64 1, .int .i64 1, .int .i64 1, .int .i64 1, .int .i64 1, .int .i64 1, .int .i64 1, .bool false] 26)) := below_new (below_new (below_two _ _ _) _) _
  have eD : ((((w.alloc (.cells #[.int .i64 0, .int .i64 1, .bool false] 72)).alloc (.cells #[.int .i64 7, .int .i64 8] 3)).alloc (.cells #[.int .i64 0, .int .i64 0, .slice (some ⟨w.heap.size + 1, 0, none⟩) 2 2] 59)).alloc (.cells #[.int .i64 3, .int .i64 2, .int .i64 2, .slice none 0 0, .slice none 0 0, .slice (some ⟨w.heap.size, 0, none⟩) 1 1, .slice (some ⟨w.heap.size + 1 + 1, 0, none⟩) 1 1, .int .i64 1, .int .i64 1, .int .i64 1, .int .i64 1, .int .i64 1, .int .i64 1, .int .i64 1, .int .i64 1, .bool false] 26)).heap[w.heap.size + 1 + 1 + 1]? = some (.cells #[.int .i64 3, .int .i64 2, .int .i64 2, .slice none 0 0, .slice none 0 0, .slice (some ⟨w.heap.size, 0, none⟩) 1 1, .slice (some ⟨w.heap.size + 1 + 1, 0, none⟩) 1 1, .int .i64 1, .int .i64 1, .int .i64 1, .int .i64 1, .int .i64 1, .int .i64 1, .int .i64 1, .int .i64 1, .bool false] 26 (0, 0)) := by
    have := heap_alloc_new (((w.alloc (.cells #[.int .i64 0, .int .i64 1, .bool false] 72)).alloc (.cells #[.int .i64 7, .int .i64 8] 3)).alloc (.cells #[.int .i64 0, .int .i64 0, .slice (some ⟨w.heap.size + 1, 0, none⟩) 2 2] 59)) (.cells #[.int .i64 3, .int .i64 2, .int .i64 2, .slice none 0 0, .slice none 0 0, .slice (some ⟨w.heap.size, 0, none⟩) 1 1, .slice (some ⟨w.heap.size + 1 + 1, 0, none⟩) 1 1, .int .i64 1, .int .i64 1, .int .i64 1, .int .i64 1, .int .i64 1, .int .i64 1, .int .i64 1, .int .i64 1, .bool false] 26)
    rw [show (((w.alloc (.cells #[.int .i64 0, .int .i64 1, .bool false] 72)).alloc (.cells #[.int .i64 7, .int .i64 8] 3)).alloc (.cells #[.int .i64 0, .int .i64 0, .slice (some ⟨w.heap.size + 1, 0, none⟩) 2 2] 59)).heap.size = w.heap.size + 1 + 1 + 1 by simp] at this
    exact this
  have cN := new_some_any ((conf8_at w).go (fun b hb => by simp; omega) bD) (fun b hb => by simp; omega) (by decide) (by decide) (by decide) (by decide) (by decide) hG
  change Calls Try.prog 7 #[.agg #[.int .i64 3, .int .i64 2, .int .i64 2, .slice none 0 0, .slice none 0 0, .slice (some ⟨w.heap.size, 0, none⟩) 1 1, .slice (some ⟨w.heap.size + 1 + 1, 0, none⟩) 1 1, .int .i64 1, .int .i64 1, .int .i64 1, .int .i64 1, .int .i64 1, .int .i64 1, .int .i64 1, .int .i64 1, .bool false]] _ _ at cN
  have hrl : (List.replicate conf8.robots.length (0 : Int)) = [0] := rfl
  rw [hrl] at cN
  clear bD hrl
  go_enter Try.func10, Try.ntmps10
  go_wp2_with (first
    | (refine wpList_load_row rfl 26 (.tmp 1) rfl (w.heap.size + 1 + 1 + 1) rfl 26 #[.int .i64 3, .int .i64 2, .int .i64 2, .slice none 0 0, .slice none 0 0, .slice (some ⟨w.heap.size, 0, none⟩) 1 1, .slice (some ⟨w.heap.size + 1 + 1, 0, none⟩) 1 1, .int .i64 1, .int .i64 1, .int .i64 1, .int .i64 1, .int .i64 1, .int .i64 1, .int .i64 1, .int .i64 1, .bool false] (0, 0) _ eD Try.underlying26 rfl info_conf ?_)
    | (go_at_call 7; refine cN.mono ?_; rintro e w5 ⟨K, ps, rfl, S5, hb5, hat5, hpm5, b5⟩; have B5 := bcat bW b5 (Nat.le_refl _); have hkb : w.heap.size ≤ K.b0 := Nat.le_trans bW.size hb5; obtain ⟨p, hp, hpb⟩ := pile8 S5 hat5; have cF := find8 S5 hat5; clear cN eD bW b5 hb5 hpm5 hat5)
    | (go_at_call 25; refine cF.mono ?_; rintro e w6 ⟨rfl, b6⟩; have b7 := below_new (Below.refl w6.heap.size w6) (.cells #[.int .i64 0, .int .i64 0] 39); have S7 := (S5.go b6).go b7; have e7 := heap_alloc_new w6 (.cells #[.int .i64 0, .int .i64 0] 39); have B7 := bcat (bcat B5 b6 (Nat.le_refl _)) b7 (Nat.le_refl _); have hft := fun b q => Nat.lt_of_lt_of_le (S5.foot_lt b q) b6.size; have hfg := S5.foot_ge; clear S5 cF b6 b7 B5)
    | (go_at_call 13; refine (lift8 hG S7 hp hpb).mono ?_; rintro e w8 ⟨v8, rfl, S8, T8⟩; have e8 := (T8.keep w6.heap.size (lt_of_heap e7) (fun q => by have := hft _ q; omega)).trans e7; have y0 := cell_of e8 0; have y1 := cell_of e8 1; have B8 := B7.trans (T8.below B7.size (fun b q => by have := hfg _ q; omega)); clear e7 S7 T8)
    | (go_at_call 19; refine (top8 hG S8 hp).mono ?_; rintro e w9 ⟨r9, rfl, rfl, b9⟩; have S9 := S8.go b9; have B9 := bcat B8 b9 (Nat.le_refl _))
    | (go_at_call 40; refine (load8 S9).mono ?_; rintro e w10 ⟨r10, rfl, rfl, b10⟩))
  go_ret
  exact ⟨_, rfl, rfl, bcat B9 b10 (Nat.le_refl _)⟩
end Go.Proofs.Ytabbdclpjghdbaa.Stk
namespace Go.Proofs.Ytabbdclpjghdbaa.Stk
set_option linter.unusedVariables false
set_option linter.unusedSimpArgs false
open Go Go.RowKit Go.Shelf Go.Proofs Go.Proofs.Ytabbdclpjghdbaa.Grid
attribute [local go_sem] Oper.semAt_some

def OkL (c : Conf) (us : List Int) (ps : List Pile) (ls : List Int) (r : Int) (x : Cell) (k : Nat) (p : Pile) : Prop := thereB ls r = true ∧ openU c.W c.H us x = true ∧ loadP ls r = 0 ∧ number c.W c.H x = (k : Nat) ∧ ps[k]? = some p ∧ p.2.2 ≠ []
def OkD (c : Conf) (us : List Int) (ps : List Pile) (ls : List Int) (r : Int) (x : Cell) (k : Nat) (p : Pile) : Prop := thereB ls r = true ∧ openU c.W c.H us x = true ∧ loadP ls r ≠ 0 ∧ number c.W c.H x = (k : Nat) ∧ ps[k]? = some p ∧ (p.2.2.length : Int) < roomP c us x
theorem open_num {K : Sk} {c : Conf} {us : List Int} {ps : List Pile} {ls : List Int} {w : World} (h : StAt K c us ps ls w) {x : Cell} (ho : openU c.W c.H us x = true) : ∃ k p, number c.W c.H x = (k : Nat) ∧ ps[k]? = some p ∧ p.1 = x := by
  have hi : In c.W c.H x := by
    unfold openU at ho
    rw [Bool.and_eq_true, decide_eq_true_eq] at ho
    exact ho.1
  obtain ⟨k, p, h1, _, _, h2, h3⟩ := h.num hi
  exact ⟨k, p, h1, h2, h3⟩
theorem lift_no {K : Sk} {c : Conf} {us : List Int} {ps : List Pile} {ls : List Int} {w : World} (h : StAt K c us ps ls w) (r x y : Int) (hn : ¬ ∃ k p, OkL c us ps ls r (x, y) k p) : Calls Try.prog 13 #[.pointer (some ⟨K.s, 0, none⟩), .int .i64 r, .agg #[.int .i64 x, .int .i64 y]] w fun e w' => ∃ code, e = .returned (.tuple #[.int .i64 0, .int .i64 code]) ∧ code ≠ 0 ∧ Below w.heap.size w w' := by
  cases ht : thereB ls r
  · exact (lift_there h r x y ht).mono fun e w' ⟨v, h1, h2, b⟩ => ⟨1, by rw [h1, h2], by decide, b⟩
  · cases ho : openU c.W c.H us (x, y)
    · exact (lift_open h r x y ht ho).mono fun e w' ⟨v, h1, h2, b⟩ => ⟨1, by rw [h1, h2], by decide, b⟩
    · by_cases hl : loadP ls r = 0
      · obtain ⟨k, p, h1, h2, _⟩ := open_num h ho
        by_cases hz : p.2.2 = []
        · exact (lift_none h r x y ht ho hl h1 h2 hz).mono fun e w' ⟨v, h1, h2, b⟩ => ⟨3, by rw [h1, h2], by decide, b⟩
        · exact absurd ⟨k, p, ht, ho, hl, h1, h2, hz⟩ hn
      · exact (lift_state h r x y ht ho hl).mono fun e w' ⟨v, h1, h2, b⟩ => ⟨8, by rw [h1, h2], by decide, b⟩
theorem drop_no {K : Sk} {c : Conf} {us : List Int} {ps : List Pile} {ls : List Int} {w : World} (h : StAt K c us ps ls w) (r x y : Int) (hn : ¬ ∃ k p, OkD c us ps ls r (x, y) k p) : Calls Try.prog 15 #[.pointer (some ⟨K.s, 0, none⟩), .int .i64 r, .agg #[.int .i64 x, .int .i64 y]] w fun e w' => ∃ code, e = .returned (.int .i64 code) ∧ code ≠ 0 ∧ Below w.heap.size w w' := by
  cases ht : thereB ls r
  · exact (drop_there h r x y ht).mono fun e w' ⟨v, h1, h2, b⟩ => ⟨1, by rw [h1, h2], by decide, b⟩
  · cases ho : openU c.W c.H us (x, y)
    · exact (drop_open h r x y ht ho).mono fun e w' ⟨v, h1, h2, b⟩ => ⟨1, by rw [h1, h2], by decide, b⟩
    · by_cases hl : loadP ls r = 0
      · exact (drop_state h r x y ht ho hl).mono fun e w' ⟨v, h1, h2, b⟩ => ⟨8, by rw [h1, h2], by decide, b⟩
      · obtain ⟨k, p, h1, h2, _⟩ := open_num h ho
        by_cases hz : (p.2.2.length : Int) < roomP c us (x, y)
        · exact absurd ⟨k, p, ht, ho, hl, h1, h2, hz⟩ hn
        · exact (drop_full h r x y ht ho hl h1 h2 (by omega)).mono fun e w' ⟨v, h1, h2, b⟩ => ⟨2, by rw [h1, h2], by decide, b⟩
theorem height_gen {K : Sk} {c : Conf} {us : List Int} {ps : List Pile} {ls : List Int} {w : World} (h : StAt K c us ps ls w) (x y : Int) : Calls Try.prog 17 #[.pointer (some ⟨K.s, 0, none⟩), .agg #[.int .i64 x, .int .i64 y]] w fun e w' => ∃ z, e = .returned (.int .i64 z) ∧ Below w.heap.size w w' := by
  cases ho : openU c.W c.H us (x, y)
  · exact (height_no h x y ho).mono fun e w' ⟨v, h1, h2, b⟩ => ⟨-1, by rw [h1, h2], b⟩
  · obtain ⟨k, p, h1, h2, _⟩ := open_num h ho
    exact (height_yes h x y ho h1 h2).mono fun e w' ⟨v, h1, h2, b⟩ => ⟨(p.2.2.length : Nat), by rw [h1, h2], b⟩
/- Which bins there are. -/
theorem load_there {ls : List Int} {r : Int} (h : thereB ls r = true) : r.toNat < ls.length ∧ loadP ls r = ls.getD r.toNat 0 ∧ (∀ z, loadP (ls.set r.toNat z) r = z) := by
  have h2 := h
  unfold thereB at h2
  simp only [Bool.and_eq_true, decide_eq_true_eq] at h2
  refine ⟨by omega, by unfold loadP; rw [h, if_pos rfl], fun z => ?_⟩
  unfold loadP
  have h3 : thereB (ls.set r.toNat z) r = true := by unfold thereB at h ⊢; rw [List.length_set]; exact h
  rw [h3, if_pos rfl, List.getD_eq_getElem?_getD, List.getElem?_set, if_pos rfl, if_pos (by omega)]
  rfl
theorem filter_set (a : Int) : ∀ (ls : List Int) (r : Nat) (y : Int), r < ls.length → ((ls.set r y).filter (fun z => z != 0)).count a + (if ls.getD r 0 != 0 then [ls.getD r 0] else []).count a = (ls.filter (fun z => z != 0)).count a + (if y != 0 then [y] else []).count a
  | [], r, y, h => by simp at h
  | q :: l, 0, y, h => by
    simp only [List.set_cons_zero, List.filter_cons, List.getD_cons_zero]
    by_cases h1 : (y != 0) = true <;> by_cases h2 : (q != 0) = true <;> simp only [h1, h2, if_true, if_false, Bool.false_eq_true, List.count_cons, List.count_nil] <;> omega
  | q :: l, r + 1, y, h => by
    have := filter_set a l r y (by simpa using h)
    simp only [List.set_cons_succ, List.filter_cons, List.getD_cons_succ]
    by_cases h1 : (q != 0) = true <;> simp only [h1, if_true, if_false, Bool.false_eq_true, List.count_cons] <;> omega
theorem top_last {bs : List Int} (h : bs ≠ []) : bs.dropLast ++ [topP bs] = bs := by
  have e : topP bs = bs.getLast h := by
    unfold topP
    rw [List.getLast_eq_getElem, List.getD_eq_getElem?_getD, List.getElem?_eq_getElem (by have := List.length_pos_iff.2 h; omega)]
    rfl
  rw [e]
  exact List.dropLast_concat_getLast h
theorem lift_perm {c : Conf} {us : List Int} {ps : List Pile} {ls : List Int} {r : Int} {x : Cell} {k : Nat} {p : Pile} (h : OkL c us ps ls r x k p) (hz : topP p.2.2 ≠ 0) (v : Value) : (allB (ps.set k (p.1, v, p.2.2.dropLast)) (ls.set r.toNat (topP p.2.2))).Perm (allB ps ls) := by
  obtain ⟨h1, _, h3, _, h5, h6⟩ := h
  obtain ⟨g1, g2, _⟩ := load_there h1
  rw [g2] at h3
  refine List.perm_iff_count.2 fun a => ?_
  have e1 := List.perm_iff_count.1 (flat_set (q := (p.1, v, p.2.2.dropLast)) h5) a
  have e2 := filter_set a ls r.toNat (topP p.2.2) g1
  have e3 := congrArg (List.count a) (top_last h6)
  rw [h3, if_pos (bne_iff_ne.2 hz)] at e2
  unfold allB
  simp only [List.count_append, bne_self_eq_false, Bool.false_eq_true, if_false, List.count_nil] at *
  omega
theorem drop_perm {c : Conf} {us : List Int} {ps : List Pile} {ls : List Int} {r : Int} {x : Cell} {k : Nat} {p : Pile} (h : OkD c us ps ls r x k p) (v : Value) : (allB (ps.set k (p.1, v, p.2.2 ++ [loadP ls r])) (ls.set r.toNat 0)).Perm (allB ps ls) := by
  obtain ⟨h1, _, h3, _, h5, _⟩ := h
  obtain ⟨g1, g2, _⟩ := load_there h1
  refine List.perm_iff_count.2 fun a => ?_
  have e1 := List.perm_iff_count.1 (flat_set (q := (p.1, v, p.2.2 ++ [loadP ls r])) h5) a
  have e2 := filter_set a ls r.toNat 0 g1
  rw [← g2, if_pos (bne_iff_ne.2 h3)] at e2
  unfold allB
  simp only [List.count_append, bne_self_eq_false, Bool.false_eq_true, if_false, List.count_nil] at *
  omega
theorem sorted_eq : ∀ {l m : List Int}, l.Pairwise (· ≤ ·) → m.Pairwise (· ≤ ·) → l.Perm m → l = m
  | [], m, _, _, h => (List.nil_perm.1 h).symm
  | x :: l, [], _, _, h => absurd h.length_eq (by simp)
  | x :: l, y :: m, h1, h2, h => by
    rw [List.pairwise_cons] at h1 h2
    have e : x = y := by
      have q1 : x ∈ y :: m := h.mem_iff.1 List.mem_cons_self
      have q2 : y ∈ x :: l := h.mem_iff.2 List.mem_cons_self
      have a1 : y ≤ x := by
        rcases List.mem_cons.1 q1 with e | e
        · omega
        · exact h2.1 x e
      have a2 : x ≤ y := by
        rcases List.mem_cons.1 q2 with e | e
        · omega
        · exact h1.1 y e
      omega
    subst e
    rw [sorted_eq h1.2 h2.2 (List.Perm.cons_inv h)]
theorem sorted_same {l m : List Int} (h : l.Perm m) : sortedI l = sortedI m := sorted_eq (sorted_pair l) (sorted_pair m) ((sorted_perm l).trans (h.trans (sorted_perm m).symm))
/- While a law plays: the stacks, and the bins as they were told first. -/
structure Lw (w : World) (K : Sk) (c : Conf) (us : List Int) (ps : List Pile) (ls : List Int) (v : Value) (B0 : List Int) (wq : World) : Prop where
  st : StAt K c us ps ls wq
  below : Below w.heap.size w wq
  own : wq.ownsRow w.heap.size 3 1 v B0.length (rowL intL (sortedI B0))
  off : ∀ b, v.ownBlock = some b → ¬ Foot K ps b
  perm : (allB ps ls).Perm B0
  base : w.heap.size ≤ K.b0
theorem Lw.go {w : World} {K : Sk} {c : Conf} {us : List Int} {ps : List Pile} {ls : List Int} {v : Value} {B0 : List Int} {wq u : World} (h : Lw w K c us ps ls v B0 wq) (hb : Below wq.heap.size wq u) : Lw w K c us ps ls v B0 u :=
  ⟨h.st.go hb, bcat h.below hb (Nat.le_refl _), owns_go h.own hb, h.off, h.perm, h.base⟩
theorem Lw.turn {w : World} {K : Sk} {c : Conf} {us : List Int} {ps ps' : List Pile} {ls ls' : List Int} {v : Value} {B0 : List Int} {wq u : World} (h : Lw w K c us ps ls v B0 wq) (T : Turn K ps ps' wq u) (st : StAt K c us ps' ls' u) (hp : (allB ps' ls').Perm (allB ps ls)) : Lw w K c us ps' ls' v B0 u :=
  ⟨st, h.below.trans (T.below h.below.size (fun b q => Nat.le_trans h.base (h.st.foot_ge b q))), owns_same h.own fun k hk => T.keep k (h.own.lt k hk).2 (h.off k hk),
    fun b hb q => (T.foot b q).elim (h.off b hb) (fun q2 => by have := (h.own.lt b hb).2; omega), hp.trans h.perm, h.base⟩
theorem Lw.keep {w : World} {K : Sk} {c : Conf} {us : List Int} {ps ps' : List Pile} {ls : List Int} {v : Value} {B0 : List Int} {wq u : World} (h : Lw w K c us ps ls v B0 wq) {w1 : World} (hb : Below wq.heap.size wq w1) (T : Turn K ps ps' w1 u) {b : Nat} (h1 : wq.heap.size ≤ b) (h2 : b < w1.heap.size) : u.heap[b]? = w1.heap[b]? :=
  T.keep b h2 (fun q => by have := h.st.foot_lt b q; omega)
end Go.Proofs.Ytabbdclpjghdbaa.Stk
