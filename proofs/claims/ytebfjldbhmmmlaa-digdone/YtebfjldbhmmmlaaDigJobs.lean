/-
  The jobs by which a bin comes to a port.
-/
import Derived.Test.YtebfjldbhmmmlaaDigFind
import Derived.Test.YtebfjldbhmmmlaaDigAgains
namespace Go.Proofs.Ytebfjldbhmmmlaa.Dig
set_option linter.unusedVariables false
set_option linter.unusedSimpArgs false
open Go Go.RowKit Go.Shelf Go.Proofs Go.Proofs.Ytebfjldbhmmmlaa.Grid Go.Proofs.Ytebfjldbhmmmlaa.Srt
attribute [local go_sem] Oper.semAt_some

/- What puts a job's bin back. -/
def agP (j : Jb) : Jb := (3, j.2.1, j.2.2.2, j.2.2.1)
/- What lies above is put away, the bin is fetched, and, if so, what was put away is put back. -/
def jobsP (ab : List Int) (x : Cell) (P : List Cell) (bin : Int) (port : Cell) (back : Bool) : List Jb :=
  awaysP ab x P ab.length ++ [(2, bin, x, port)] ++ (if back then ((awaysP ab x P ab.length).map agP).reverse else [])
/- Jobs' answer. -/
def JobsR (ports : List Cell) (stks : List Stk) (height : Int) (L tl : List Cell) (back : Bool) (bin : Int) (port : Cell) (r : List Jb) (e : Int) : Prop :=
  (portP ports port 0 < 0 ∧ r = [] ∧ e = 10) ∨
  (0 ≤ portP ports port 0 ∧ (((∀ x ∈ L, bin ∉ pileOf stks x) ∧ r = [] ∧ e = 9) ∨
    ∃ x j, At stks L bin x j ∧ ((x ∈ tl ∧ r = [] ∧ e = 8) ∨ (x ∉ tl ∧ ∃ P, Places stks height L tl x P ∧
      ((P.length < ((pileOf stks x).drop (j + 1)).length ∧ r = [] ∧ e = 14) ∨
       (((pileOf stks x).drop (j + 1)).length ≤ P.length ∧ P.length ≤ 256000 ∧ r = jobsP ((pileOf stks x).drop (j + 1)) x P bin port back ∧ e = 0))))))
theorem down_map {css : Nat → Jb} (js : List Jb) (hcs : ∀ i (h : i < js.length), css i = js[i]'h) : (down css js.length 0).map agJ = (js.map agP).reverse := by
  unfold down
  rw [List.map_map, Nat.sub_zero, ← List.map_reverse, ← List.range_eq_range']
  refine List.ext_getElem? fun i => ?_
  rw [List.getElem?_map, List.getElem?_map]
  by_cases hi : i < js.length
  · rw [List.getElem?_reverse (by simpa using hi), List.getElem?_reverse hi, List.length_range, List.getElem?_range (by omega), List.getElem?_eq_getElem (by omega)]
    simp only [Option.map_some, Function.comp]
    rw [hcs _ (by omega)]
    rfl
  · rw [List.getElem?_eq_none (by simp; omega), List.getElem?_eq_none (by simp; omega)]
    rfl
theorem run_take_job {w : World} {b : Nat} {v : Value} {n : Nat} {xs : List Value} (h : w.ownsRow b 41 9 v n xs) (k : Nat) (hk : k ≤ n) (u : World) : (Instr.sliceAt 32 v none (some (.int .i64 k)) none).run Try.prog u = .ok (takeV v k) u := by
  rcases h.2 with ⟨hv, h0⟩ | ⟨g, cap, cur, hv, h1, h2, h3, h4, h5, h6⟩
  · obtain rfl : k = 0 := by omega
    subst hv
    clear h
    unfold takeV
    go_simp
  · subst hv
    have a2 : (k : Int) ≤ (cap : Int) := by omega
    clear h h1 h2 h3 h4 h5 h6 hk
    unfold takeV
    go_simp
theorem wpList_take {ops : Array Oper} {rest : List Oper} {o : Oper} {a : Act} {w : World} {Q : Exit → Act → World → Prop} (hgd : o.guard = none) (px pk : Operand) (ho : o.op = .slice 32 px none (some pk) none) (x k v : Value) (hx : a.eval px = x) (hk : a.eval pk = k) (h : (Instr.sliceAt 32 x none (some k) none).run Try.prog w = .ok v w)
    (hK : wpList Try.prog ops Q rest (a.put o.dst v) w) : wpList Try.prog ops Q (o :: rest) a w := by
  refine wpList_plain hgd fun K hK' => ?_
  unfold Oper.wp
  have : (execOp a.eval o).run Try.prog w = .ok (.value v) w := by
    unfold execOp
    simp only [ho, Option.map_some, Option.map_none, hx, hk, Sem.run_bind, Sem.run_pure, Result.andThen_ok, h]
  rw [this]
  exact hK' _ _ hK
set_option maxRecDepth 100000 in
set_option maxHeartbeats 2000000 in
theorem jobs_none {F : Nat → Prop} {c : Conf} {v1 v2 v3 v4 : Value} {w : World} (hA : ConfAt F c v1 v2 v3 v4 w) (hF : ∀ b, F b → b < w.heap.size) (l1 : c.blocked.length ≤ 8796093022208) (l2 : c.ports.length ≤ 8796093022208) (l3 : c.robots.length ≤ 5864062014805) (l4 : c.stacks.length ≤ 3518437208880) (hN : newP c = none) (sv tv : Value) (bin : Int) (port : Cell) : Calls Try.prog 7 #[.agg #[.int .i64 c.W, .int .i64 c.H, .int .i64 c.height, v1, v2, v3, v4, .int .i64 c.unit, .int .i64 c.accel, .int .i64 c.speed, .int .i64 c.turn, .int .i64 c.hoist, .int .i64 c.queue, .int .i64 c.resend, .int .i64 c.budget, .bool c.back], sv, tv, .int .i64 bin, .agg #[.int .i64 port.1, .int .i64 port.2]] w fun e w' => ∃ r, e = .returned r ∧ (r = .tuple #[.slice none 0 0, .int .i64 5] ∧ Below w.heap.size w w') := by
  obtain ⟨w2, hw2⟩ : ∃ w2, w2 = (w.alloc (.cells #[.int .i64 c.W, .int .i64 c.H, .int .i64 c.height, v1, v2, v3, v4, .int .i64 c.unit, .int .i64 c.accel, .int .i64 c.speed, .int .i64 c.turn, .int .i64 c.hoist, .int .i64 c.queue, .int .i64 c.resend, .int .i64 c.budget, .bool c.back] 26)).alloc (.cells #[.int .i64 port.1, .int .i64 port.2] 30) := ⟨_, rfl⟩
  have b2 : Below w.heap.size w w2 := by rw [hw2]; exact below_two _ _ _
  have s2 : w2.heap.size = w.heap.size + 2 := by rw [hw2]; simp
  have hc2 : w2.heap[w.heap.size]? = some (.cells #[.int .i64 c.W, .int .i64 c.H, .int .i64 c.height, v1, v2, v3, v4, .int .i64 c.unit, .int .i64 c.accel, .int .i64 c.speed, .int .i64 c.turn, .int .i64 c.hoist, .int .i64 c.queue, .int .i64 c.resend, .int .i64 c.budget, .bool c.back] 26 (0, 0)) := by rw [hw2]; exact (alloc_old _ _ _ (by simp)).trans (heap_alloc_new w _)
  have hp2 : w2.heap[w.heap.size + 1]? = some (.cells #[.int .i64 port.1, .int .i64 port.2] 30 (0, 0)) := by rw [hw2]; exact heap_new2 _ _ _
  have lF2 : ∀ b, F b → b < w2.heap.size := fun b hb => Nat.lt_of_lt_of_le (hF b hb) b2.size
  have cN := newYard_none (hA.go hF b2) lF2 l1 l2 l3 l4 hN sv
  clear hA hF
  go_enter Try.func7, Try.ntmps7
  go_upto_region 1 with fail
  rw [← hw2]
  clear hw2
  go_wp2_with (first
    | (refine wpList_load_row rfl 26 (.tmp 5) rfl w.heap.size rfl 26 _ (0, 0) _ hc2 Try.underlying26 rfl info_conf ?_)
    | (go_at_call 16; refine cN.mono ?_; rintro e w4 ⟨rfl, b4⟩))
  exact bodyPost_ret (results_tmp2 rfl _ _ _) rfl ⟨_, rfl, rfl, bcat b2 b4 (Nat.le_refl _)⟩
theorem uses_len {c : Conf} {G : GS} (hN : newP c = some G) : G.uses.length ≤ 256 := by
  have h := (new_some hN).2.2.2.2
  have q := limited_sides (new_some hN).1.1
  have e := h.len
  have h1 : c.W * c.H ≤ 16 * 16 := Int.mul_le_mul q.2.1 q.2.2.2.1 (by omega) (by omega)
  omega
theorem find_one (yb pb g u : Nat) (W H height : Int) (us : List Int) (vp : Value) (F : Nat → Prop) (stks : List Stk) (bin : Int) (w : World) (hY : YardAt w yb pb g u W H height us vp F stks) (hp : ∀ x, (pileOf stks x).length ≤ 17592186044416) :
    Calls Try.prog 18 #[.pointer (some ⟨yb, 0, none⟩), .int .i64 bin] w fun e w' => ∃ x a n k ok, e = .returned (.tuple #[.agg #[.int .i64 x.1, .int .i64 x.2], .slice a n k, .bool ok]) ∧ (ok = true → ∃ j, At stks (stkUpTo W us us.length) bin x j ∧ n = ((pileOf stks x).drop (j + 1)).length ∧ ListAt 1 intEl F ((pileOf stks x).drop (j + 1)) (.slice a n k) w') ∧ (ok = false → ∀ x ∈ stkUpTo W us us.length, bin ∉ pileOf stks x) ∧ Below w.heap.size w w' :=
  (find_any yb pb g u W H height us vp F stks bin w hY hp).mono fun e w' h => by
    rcases h with ⟨⟨x, j, v, rfl, hA, hL⟩ | ⟨rfl, hNo⟩, b⟩
    · obtain ⟨a, k, rfl, _⟩ := hL.form
      exact ⟨x, a, _, k, true, rfl, fun _ => ⟨j, hA, rfl, hL⟩, (fun q => by cases q), b⟩
    · exact ⟨(0, 0), none, 0, 0, false, rfl, (fun q => by cases q), fun _ => hNo, b⟩
theorem places_len {stks : List Stk} {height : Int} {L tl : List Cell} {f : Cell} {P : List Cell} (h : Places stks height L tl f P) (hL : L.length ≤ 256) (hh : height ≤ 1000) : P.length ≤ 256000 := by
  obtain ⟨Ss, h1, rfl⟩ := h
  have a1 := spots_len (m := 1000) Ss (fun c _ => room_le (stks := stks) hh c)
  have a2 : Ss.length ≤ 256 := by rw [h1.len]; exact Nat.le_trans (flt_len _ _ _) hL
  have a3 : Ss.length * 1000 ≤ 256 * 1000 := Nat.mul_le_mul_right _ a2
  omega
set_option maxRecDepth 100000 in
set_option maxHeartbeats 4000000 in
theorem jobs_some {F : Nat → Prop} {c : Conf} {v1 v2 v3 v4 : Value} {w : World} (hA : ConfAt F c v1 v2 v3 v4 w) (hF : ∀ b, F b → b < w.heap.size) (l1 : c.blocked.length ≤ 8796093022208) (l2 : c.ports.length ≤ 8796093022208) (l3 : c.robots.length ≤ 5864062014805) (l4 : c.stacks.length ≤ 3518437208880) {G : GS} (hN : newP c = some G) (Fs : Nat → Prop) (stks : List Stk) (sa : Option Addr) (sn sc : Nat) (hS : ListAt 3 stackElC Fs stks (.slice sa sn sc) w) (hFs : ∀ b, Fs b → b < w.heap.size) (hsn : sn ≤ 1000000) (hp : ∀ x, (pileOf stks x).length ≤ 17592186044416) (Ft : Nat → Prop) (tl : List Cell) (ta : Option Addr) (tn tc : Nat) (hT : ListAt 2 cellEl Ft tl (.slice ta tn tc) w) (hFt : ∀ b, Ft b → b < w.heap.size) (htn : tn ≤ 1000000) (bin : Int) (port : Cell) :
    Calls Try.prog 7 #[.agg #[.int .i64 c.W, .int .i64 c.H, .int .i64 c.height, v1, v2, v3, v4, .int .i64 c.unit, .int .i64 c.accel, .int .i64 c.speed, .int .i64 c.turn, .int .i64 c.hoist, .int .i64 c.queue, .int .i64 c.resend, .int .i64 c.budget, .bool c.back], .slice sa sn sc, .slice ta tn tc, .int .i64 bin, .agg #[.int .i64 port.1, .int .i64 port.2]] w fun e w' => ∃ rv, e = .returned rv ∧ (∃ r v ee, rv = .tuple #[v, .int .i64 ee] ∧ JobsR c.ports stks c.height (stkUpTo c.W G.uses G.uses.length) tl c.back bin port r ee ∧ w'.ownsRow w.heap.size 41 9 v r.length (rowL jobL r)) ∧ Below w.heap.size w w' := by
  obtain ⟨w2, hw2⟩ : ∃ w2, w2 = (w.alloc (.cells #[.int .i64 c.W, .int .i64 c.H, .int .i64 c.height, v1, v2, v3, v4, .int .i64 c.unit, .int .i64 c.accel, .int .i64 c.speed, .int .i64 c.turn, .int .i64 c.hoist, .int .i64 c.queue, .int .i64 c.resend, .int .i64 c.budget, .bool c.back] 26)).alloc (.cells #[.int .i64 port.1, .int .i64 port.2] 30) := ⟨_, rfl⟩
  have b2 : Below w.heap.size w w2 := by rw [hw2]; exact below_two _ _ _
  have s2 : w2.heap.size = w.heap.size + 2 := by rw [hw2]; simp
  have hc2 : w2.heap[w.heap.size]? = some (.cells #[.int .i64 c.W, .int .i64 c.H, .int .i64 c.height, v1, v2, v3, v4, .int .i64 c.unit, .int .i64 c.accel, .int .i64 c.speed, .int .i64 c.turn, .int .i64 c.hoist, .int .i64 c.queue, .int .i64 c.resend, .int .i64 c.budget, .bool c.back] 26 (0, 0)) := by rw [hw2]; exact (alloc_old _ _ _ (by simp)).trans (heap_alloc_new w _)
  have hp2 : w2.heap[w.heap.size + 1]? = some (.cells #[.int .i64 port.1, .int .i64 port.2] 30 (0, 0)) := by rw [hw2]; exact heap_new2 _ _ _
  have lF2 : ∀ b, F b → b < w2.heap.size := fun b hb => Nat.lt_of_lt_of_le (hF b hb) b2.size
  have cN := newYard_some (hA.go hF b2) lF2 l1 l2 l3 l4 hN Fs stks sa sn sc (hS.go heldStackC hFs b2) (fun b hb => Nat.lt_of_lt_of_le (hFs b hb) b2.size) hsn
  have HT : Hid (∀ u, Below w.heap.size w u → ListAt 2 cellEl Ft tl (.slice ta tn tc) u) := fun u b => hT.go heldCell hFt b
  have hh : 0 ≤ c.height ∧ c.height ≤ 1000 := by have := limited_sides (new_some hN).1.1; omega
  have HPl : Hid (∀ x, (pileOf stks x).length ≤ 17592186044416) := hp
  have hLl : Hid ((stkUpTo c.W G.uses G.uses.length).length ≤ 256) := Nat.le_trans (stkUpTo_len _ _ _) (uses_len hN)
  have HTn : Hid (tl.length = tn) := by obtain ⟨a, cap, e, _⟩ := hT.form; injection e with _ e2 _; exact e2.symm
  clear hA hF hT hS hp
  go_enter Try.func7, Try.ntmps7
  go_upto_region 1 with fail
  rw [← hw2]
  clear hw2
  go_upto_region 4 with (first
    | (refine wpList_load_row rfl 26 (.tmp 5) rfl w.heap.size rfl 26 _ (0, 0) _ hc2 Try.underlying26 rfl info_conf ?_)
    | (go_at_call 16; refine cN.mono ?_; rintro e w3 ⟨yb, pb, g, u, vp, rfl, hY, own, b3⟩))
  have b03 := bcat b2 b3 (Nat.le_refl _)
  have hc3 := (b3.block _ (lt_of_heap hc2)).trans hc2
  have hp3 := (b3.block _ (lt_of_heap hp2)).trans hp2
  have hP3 := list_of_own kindCell.len own
  have HY : Hid (YardAt w3 yb pb g u c.W c.H c.height G.uses vp Fs stks) := hY
  have HG0 : Hid (∀ u, Below w3.heap.size w3 u → u.cell? ⟨yb, 0, none⟩ = some (.pointer (some ⟨g, 0, none⟩))) := fun u hu => cell_below ((cell_of hY.hd 0).trans rfl) hu
  have HPc : Hid (∀ u, Below w3.heap.size w3 u → ∀ j z, #[.int .i64 port.1, .int .i64 port.2][j]? = some z → u.cell? ((⟨w.heap.size + 1, 0, none⟩ : Addr).add j) = some z) := fun u hu => row_below hp3 hu
  have HBk : Hid (∀ u, Below w3.heap.size w3 u → u.cell? ⟨w.heap.size, 15, none⟩ = some (.bool c.back)) := fun u hu => cell_below ((cell_of hc3 15).trans rfl) hu
  have HPr : Hid (∀ u, Below w3.heap.size w3 u → u.heap[w.heap.size + 1]? = some (.cells #[.int .i64 port.1, .int .i64 port.2] 30 (0, 0))) := fun u hu => (hu.block _ (lt_of_heap hp3)).trans hp3
  have HPo : Hid (∀ uu, Below w3.heap.size w3 uu → Calls Try.prog 17 #[.pointer (some ⟨g, 0, none⟩), .agg #[.int .i64 port.1, .int .i64 port.2]] uu fun e w' => ∃ r, e = .returned r ∧ (r = .int .i64 (portP c.ports port 0) ∧ Below uu.heap.size uu w')) := fun uu b => port_any g u c.W c.H G.uses vp (Since w2.heap.size w3) c.ports port.1 port.2 uu (hY.grid.go b) (hP3.go heldCell (fun q h => h.2) b) (fun q h => Nat.lt_of_lt_of_le h.2 b.size) (by omega)
  have HB3 : Hid (Below w.heap.size w w3) := b03
  have S0 : Below w3.heap.size w3 w3.drew := (Below.refl _ _).drew
  clear hY hc3 hp3 hP3 own cN hc2 hp2 b3 b03
  obtain ⟨pq, hpq⟩ : ∃ pq, portP c.ports port 0 = pq := ⟨_, rfl⟩
  have HPq : Hid (portP c.ports port 0 = pq) := hpq
  rw [hpq] at HPo
  clear hpq
  by_cases hq : pq < 0
  · have hd := decide_eq_true hq
    refine start_held (S := fun u => Below w3.heap.size w3 u) 7 rfl (by kernel_rfl) S0 ?_
    simp only [Array.replicate_succ, Array.replicate_zero, List.push_toArray, List.nil_append, List.cons_append]
    refine take_held 0 S0 rfl (by kernel_rfl) (by kernel_rfl) (by kernel_rfl) (fun _ _ _ h => h) (by kernel_rfl) (v := ?v0) ?y0 ?r0
    case y0 => (intro u hu; go_simp; try rfl)
    simp only [Act.put, List.setIfInBounds_toArray, List.set_cons_zero, List.set_cons_succ]
    refine take_held 1 S0 rfl (by kernel_rfl) (by kernel_rfl) (by kernel_rfl) (fun _ _ _ h => h) (by kernel_rfl) (v := ?v1) ?y1 ?r1
    case y1 => (intro u hu; go_simp; try rfl)
    simp only [Act.put, List.setIfInBounds_toArray, List.set_cons_zero, List.set_cons_succ]
    refine take_held 2 S0 rfl (by kernel_rfl) (by kernel_rfl) (by kernel_rfl) (fun _ _ _ h => h) (by kernel_rfl) (v := ?v2) ?y2 ?r2
    case y2 => (intro u hu; go_simp; try rfl)
    simp only [Act.put, List.setIfInBounds_toArray, List.set_cons_zero, List.set_cons_succ]
    refine take_held 3 S0 rfl (by kernel_rfl) (by kernel_rfl) (by kernel_rfl) (fun _ _ _ h => h) (by kernel_rfl) (v := .pointer (some ⟨g, 0, none⟩)) ?y3 ?r3
    case y3 => (intro u hu; have zz := HG0.out u hu; go_simp; try rfl)
    simp only [Act.put, List.setIfInBounds_toArray, List.set_cons_zero, List.set_cons_succ]
    refine take_held 4 S0 rfl (by kernel_rfl) (by kernel_rfl) (by kernel_rfl) (fun _ _ _ h => h) (by kernel_rfl) (v := .agg #[.int .i64 port.1, .int .i64 port.2]) ?y4 ?r4
    case y4 => (intro u hu; exact run_load_op 30 _ rfl ⟨w.heap.size + 1, 0, none⟩ _ rfl (HPc.out u hu) (aggCell u) infoCell2)
    simp only [Act.put, List.setIfInBounds_toArray, List.set_cons_zero, List.set_cons_succ]
    refine wpAnyH_ready (rs := [5]) (by kernel_rfl) (by simp) (AllReadyH.cons ((nth_eq _ 5).trans rfl) ?_ AllReadyH.nil)
    intro K' hK
    refine call_in hK (by kernel_rfl) 17 #[.pointer (some ⟨g, 0, none⟩), .agg #[.int .i64 port.1, .int .i64 port.2]] (by go_simp) _ (HPo.out _ S0) ?_
    rintro vq x1 ⟨rfl, b1⟩
    have S1 : Below w3.heap.size w3 x1 := bcat S0 b1 (Nat.le_refl _)
    refine ⟨S1, ?_⟩
    simp only [Act.put, List.setIfInBounds_toArray, List.set_cons_zero, List.set_cons_succ]
    refine take_held 6 S1 rfl (by kernel_rfl) (by kernel_rfl) (by kernel_rfl) (fun _ _ _ h => h) (by kernel_rfl) (v := .bool true) ?y5 ?r5
    case y5 => (intro u hu; go_simp; try rfl)
    simp only [Act.put, List.setIfInBounds_toArray, List.set_cons_zero, List.set_cons_succ]
    refine done_held (by kernel_rfl) ?_ _
    go_wp2_with fail
    exact bodyPost_ret (results_tmp2 rfl _ _ _) rfl ⟨_, rfl, ⟨[], _, _, rfl, Or.inl ⟨by rw [HPq.out]; exact hq, rfl, rfl⟩, World.ownsRow_nil _ _ _ _⟩, bcat HB3.out S1 (Nat.le_refl _)⟩
  · have hd := decide_eq_false hq
    refine start_held (S := fun u => Below w3.heap.size w3 u) 7 rfl (by kernel_rfl) S0 ?_
    simp only [Array.replicate_succ, Array.replicate_zero, List.push_toArray, List.nil_append, List.cons_append]
    refine take_held 0 S0 rfl (by kernel_rfl) (by kernel_rfl) (by kernel_rfl) (fun _ _ _ h => h) (by kernel_rfl) (v := ?v6) ?y6 ?r6
    case y6 => (intro u hu; go_simp; try rfl)
    simp only [Act.put, List.setIfInBounds_toArray, List.set_cons_zero, List.set_cons_succ]
    refine take_held 1 S0 rfl (by kernel_rfl) (by kernel_rfl) (by kernel_rfl) (fun _ _ _ h => h) (by kernel_rfl) (v := ?v7) ?y7 ?r7
    case y7 => (intro u hu; go_simp; try rfl)
    simp only [Act.put, List.setIfInBounds_toArray, List.set_cons_zero, List.set_cons_succ]
    refine take_held 2 S0 rfl (by kernel_rfl) (by kernel_rfl) (by kernel_rfl) (fun _ _ _ h => h) (by kernel_rfl) (v := ?v8) ?y8 ?r8
    case y8 => (intro u hu; go_simp; try rfl)
    simp only [Act.put, List.setIfInBounds_toArray, List.set_cons_zero, List.set_cons_succ]
    refine take_held 3 S0 rfl (by kernel_rfl) (by kernel_rfl) (by kernel_rfl) (fun _ _ _ h => h) (by kernel_rfl) (v := .pointer (some ⟨g, 0, none⟩)) ?y9 ?r9
    case y9 => (intro u hu; have zz := HG0.out u hu; go_simp; try rfl)
    simp only [Act.put, List.setIfInBounds_toArray, List.set_cons_zero, List.set_cons_succ]
    refine take_held 4 S0 rfl (by kernel_rfl) (by kernel_rfl) (by kernel_rfl) (fun _ _ _ h => h) (by kernel_rfl) (v := .agg #[.int .i64 port.1, .int .i64 port.2]) ?y10 ?r10
    case y10 => (intro u hu; exact run_load_op 30 _ rfl ⟨w.heap.size + 1, 0, none⟩ _ rfl (HPc.out u hu) (aggCell u) infoCell2)
    simp only [Act.put, List.setIfInBounds_toArray, List.set_cons_zero, List.set_cons_succ]
    refine wpAnyH_ready (rs := [5]) (by kernel_rfl) (by simp) (AllReadyH.cons ((nth_eq _ 5).trans rfl) ?_ AllReadyH.nil)
    intro K' hK
    refine call_in hK (by kernel_rfl) 17 #[.pointer (some ⟨g, 0, none⟩), .agg #[.int .i64 port.1, .int .i64 port.2]] (by go_simp) _ (HPo.out _ S0) ?_
    rintro vq x1 ⟨rfl, b1⟩
    have S1 : Below w3.heap.size w3 x1 := bcat S0 b1 (Nat.le_refl _)
    refine ⟨S1, ?_⟩
    simp only [Act.put, List.setIfInBounds_toArray, List.set_cons_zero, List.set_cons_succ]
    refine take_held 6 S1 rfl (by kernel_rfl) (by kernel_rfl) (by kernel_rfl) (fun _ _ _ h => h) (by kernel_rfl) (v := .bool false) ?y11 ?r11
    case y11 => (intro u hu; go_simp; try rfl)
    simp only [Act.put, List.setIfInBounds_toArray, List.set_cons_zero, List.set_cons_succ]
    refine done_held (by kernel_rfl) ?_ _
    have cF := find_one yb pb g u c.W c.H c.height G.uses vp Fs stks bin x1 (HY.out.go S1) HPl.out
    have HPq2 : Hid (0 ≤ portP c.ports port 0) := by show _ ≤ _; rw [HPq.out]; omega
    clear hd
    go_upto_region 7 with (go_at_call 18; refine cF.mono ?_; rintro e x2 ⟨x, aa, an, ak, ok, rfl, hYes, hNo, b5⟩)
    obtain ⟨x3, hx3⟩ : ∃ x3, x3 = x2.alloc (.cells #[.int .i64 x.1, .int .i64 x.2] 30) := ⟨_, rfl⟩
    have b3' : Below x2.heap.size x2 x3 := by rw [hx3]; exact below_new (Below.refl _ _) _
    have hf3 : x3.heap[x2.heap.size]? = some (.cells #[.int .i64 x.1, .int .i64 x.2] 30 (0, 0)) := by rw [hx3]; exact heap_alloc_new x2 _
    have S3 : Below w3.heap.size w3 x3 := bcat (bcat S1 b5 (Nat.le_refl _)) b3' (Nat.le_refl _)
    have B3 := bcat HB3.out S3 (Nat.le_refl _)
    rw [← hx3]
    clear hx3 cF
    obtain ⟨fb, hfb⟩ : ∃ fb, x2.heap.size = fb := ⟨_, rfl⟩
    rw [hfb] at hf3 ⊢
    cases ok with
    | false =>
      have HNo : Hid (∀ x ∈ stkUpTo c.W G.uses G.uses.length, bin ∉ pileOf stks x) := hNo rfl
      clear hNo hYes
      go_wp2_with fail
      exact bodyPost_ret (results_tmp2 rfl _ _ _) rfl ⟨_, rfl, ⟨[], _, _, rfl, Or.inr ⟨HPq2.out, Or.inl ⟨HNo.out, rfl, rfl⟩⟩, World.ownsRow_nil _ _ _ _⟩, B3⟩
    | true =>
      obtain ⟨j, hAt, han, hL⟩ := hYes rfl
      have hlw : ∀ b, Fs b → b < x2.heap.size := fun b hb => by have := (HY.out.go S1).foot b hb; have := b5.size; omega
      have hL3 := hL.go heldInt hlw b3'
      have HL3 : Hid (∀ u, Below x3.heap.size x3 u → ListAt 1 intEl Fs ((pileOf stks x).drop (j + 1)) (.slice aa an ak) u) := fun u b => hL3.go heldInt (fun q hq => Nat.lt_of_lt_of_le (hlw q hq) b3'.size) b
      have HF3 : Hid (∀ u, Below x3.heap.size x3 u → ∀ b, Fs b → b < u.heap.size) := fun u b q hq => Nat.lt_of_lt_of_le (Nat.lt_of_lt_of_le (hlw q hq) b3'.size) b.size
      have HAt : Hid (At stks (stkUpTo c.W G.uses G.uses.length) bin x j) := hAt
      have HAn : Hid (an = ((pileOf stks x).drop (j + 1)).length) := han
      have cC := contains_any Ft tl (.slice ta tn tc) x x3 (HT.out _ B3) (fun b hb => Nat.lt_of_lt_of_le (hFt b hb) B3.size) (by rw [HTn.out]; omega)
      clear hL hL3 hNo hYes han hAt
      by_cases hm : x ∈ tl
      · rw [decide_eq_true hm] at cC
        have HM : Hid (x ∈ tl) := hm
        clear hm
        go_wp2_with (first
          | (refine wpList_load_row rfl 30 (.tmp 14) rfl fb rfl 30 #[.int .i64 x.1, .int .i64 x.2] (0, 0) _ hf3 Try.underlying30 rfl infoCell2 ?_)
          | (go_at_call 19; refine cC.mono ?_; rintro e x4 ⟨rc, rfl, rfl, b4⟩))
        exact bodyPost_ret (results_tmp2 rfl _ _ _) rfl ⟨_, rfl, ⟨[], _, _, rfl, Or.inr ⟨HPq2.out, Or.inr ⟨x, j, HAt.out, Or.inl ⟨HM.out, rfl, rfl⟩⟩⟩, World.ownsRow_nil _ _ _ _⟩, bcat B3 b4 (Nat.le_refl _)⟩
      · rw [decide_eq_false hm] at cC
        have HM : Hid (x ∉ tl) := hm
        clear hm
        go_upto_region 11 with (first
          | (refine wpList_load_row rfl 30 (.tmp 14) rfl fb rfl 30 #[.int .i64 x.1, .int .i64 x.2] (0, 0) _ hf3 Try.underlying30 rfl infoCell2 ?_)
          | (go_at_call 19; refine cC.mono ?_; rintro e x4 ⟨rc, rfl, rfl, b4⟩))
        have hf4 := (b4.block _ (lt_of_heap hf3)).trans hf3
        have S4 : Below w3.heap.size w3 x4 := bcat S3 b4 (Nat.le_refl _)
        have B4 := bcat B3 b4 (Nat.le_refl _)
        have cP := places_any yb pb g u c.W c.H c.height G.uses vp Fs stks tl ta tn tc Ft x x4 (HY.out.go S4) (HT.out _ B4) (fun b hb => Nat.lt_of_lt_of_le (hFt b hb) B4.size) htn hh.1 hh.2 HPl.out
        go_upto_region 12 with (first
          | (refine wpList_load_row rfl 30 (.tmp 14) rfl fb rfl 30 #[.int .i64 x.1, .int .i64 x.2] (0, 0) _ hf4 Try.underlying30 rfl infoCell2 ?_)
          | (go_at_call 20; refine cP.mono ?_; rintro e x5 ⟨vP, rfl, Ss, hSo, ownP, b5'⟩))
        have T5 : Below x3.heap.size x3 x5 := bcat b4 b5' (Nat.le_refl _)
        have hf5 := (b5'.block _ (lt_of_heap hf4)).trans hf4
        have S5 : Below w3.heap.size w3 x5 := bcat S4 b5' (Nat.le_refl _)
        have B5 := bcat B4 b5' (Nat.le_refl _)
        obtain ⟨P, hP⟩ : ∃ P, spots (roomOf stks c.height) Ss = P := ⟨_, rfl⟩
        have HPs : Hid (Places stks c.height (stkUpTo c.W G.uses G.uses.length) tl x P) := ⟨Ss, hSo, hP.symm⟩
        rw [hP] at ownP
        have hPl := places_len HPs.out hLl.out hh.2
        obtain ⟨pa, pc, hvP, _⟩ := own_form ownP
        obtain ⟨pn, hpn⟩ : ∃ pn, P.length = pn := ⟨_, rfl⟩
        have HPn : Hid (P.length = pn) := hpn
        rw [hpn] at hvP hPl
        subst hvP
        have hLP := list_of_own kindCell.len ownP
        have HLP : Hid (∀ u, Below x5.heap.size x5 u → ListAt 2 cellEl (Since x4.heap.size x5) P (.slice pa pn pc) u) := fun u b => hLP.go heldCell (fun q h => h.2) b
        have HJr : Hid (∀ r ee, ((P.length < ((pileOf stks x).drop (j + 1)).length ∧ r = [] ∧ ee = 14) ∨ (((pileOf stks x).drop (j + 1)).length ≤ P.length ∧ P.length ≤ 256000 ∧ r = jobsP ((pileOf stks x).drop (j + 1)) x P bin port c.back ∧ ee = 0)) → JobsR c.ports stks c.height (stkUpTo c.W G.uses G.uses.length) tl c.back bin port r ee) := fun r ee h => Or.inr ⟨HPq2.out, Or.inr ⟨x, j, HAt.out, Or.inr ⟨HM.out, P, HPs.out, h⟩⟩⟩
        clear hP hSo cP cC ownP hLP hpn
        by_cases hlen : (pn : Int) < (an : Int)
        · have hd2 := decide_eq_true hlen
          go_wp2_with fail
          exact bodyPost_ret (results_tmp2 rfl _ _ _) rfl ⟨_, rfl, ⟨[], _, _, rfl, HJr.out _ _ (Or.inl ⟨by rw [← HAn.out, HPn.out]; omega, rfl, rfl⟩), World.ownsRow_nil _ _ _ _⟩, B5⟩
        · have hd2 := decide_eq_false hlen
          obtain ⟨ab, hab⟩ : ∃ ab, (pileOf stks x).drop (j + 1) = ab := ⟨_, rfl⟩
          rw [hab] at HJr HL3 HAn
          have cA := aways_any ab x P (.slice aa an ak) (.slice pa pn pc) Fs (Since x4.heap.size x5) x5 (HL3.out _ T5) (HLP.out _ (Below.refl _ _)) (HF3.out _ T5) (fun q h => h.2) (by have := HAn.out; rw [HPn.out]; omega) (by have := HAn.out; omega) (by rw [HPn.out]; omega)
          have HAb : Hid ((pileOf stks x).drop (j + 1) = ab) := hab
          clear hab
          go_upto_region 15 with (first
            | (refine wpList_load_row rfl 30 (.tmp 14) rfl fb rfl 30 #[.int .i64 x.1, .int .i64 x.2] (0, 0) _ hf5 Try.underlying30 rfl infoCell2 ?_)
            | (go_at_call 21; refine cA.mono ?_; rintro e x6 ⟨vo, rfl, own6, b6⟩))
          obtain ⟨J, hJ⟩ : ∃ J, awaysP ab x P ab.length = J := ⟨_, rfl⟩
          have hJl : J.length = an := by rw [← hJ, awaysP_len]; exact HAn.out.symm
          have HJ : Hid (awaysP ab x P ab.length = J) := hJ
          have HJl : Hid (J.length = an) := hJl
          rw [hJ] at own6
          have han : an ≤ 256000 := by omega
          have B6 := bcat B5 b6 (Nat.le_refl _)
          have S6 : Below w3.heap.size w3 x6 := bcat S5 b6 (Nat.le_refl _)
          have hf6 := (b6.block _ (lt_of_heap hf5)).trans hf5
          have hp6 := HPr.out _ S6
          have s56 := b6.size
          have sw5 := S5.size
          have sw3 := HB3.out.size
          have HOw : Hid (x6.ownsRow x5.heap.size 41 9 vo J.length (rowL jobL J)) := own6
          clear hJ hJl own6 cA
          go_upto_region 16 with (first
            | (refine wpList_load_row rfl 30 (.tmp 14) rfl fb rfl 30 #[.int .i64 x.1, .int .i64 x.2] (0, 0) _ hf6 Try.underlying30 rfl infoCell2 ?_)
            | (refine wpList_load_row rfl 30 (.tmp 9) rfl (w.heap.size + 1) rfl 30 #[.int .i64 port.1, .int .i64 port.2] (0, 0) _ hp6 Try.underlying30 rfl infoCell2 ?_)
            | (go_at_call 22; refine (job_any 2 bin x port x6).mono ?_; rintro e x7 ⟨vj, rfl, rfl, b7⟩)
            | (at_builtin; have bA := (Below.refl x7.heap.size x7).alloc (Nat.le_refl _) (.cells #[.int .i64 0, .int .i64 2, .int .i64 0, .int .i64 bin, .int .i64 x.1, .int .i64 x.2, .int .i64 port.1, .int .i64 port.2, .int .i64 (-1)] 41); have T7 := bcat b7 bA (Nat.le_refl _); have O7 := owns_go HOw.out T7; have L7 := list_one (f := jobL) (S := 9) x7 (2, bin, x, port) 41 rfl; have e1 : (J.length + [((2, bin, x, port) : Jb)].length) * 72 ≤ 140737488355328 := (by have := HJl.out; simp only [List.length_cons, List.length_nil]; omega); have e2 : J.length + [((2, bin, x, port) : Jb)].length ≤ maxLen := (by have := HJl.out; unfold maxLen; simp only [List.length_cons, List.length_nil]; omega); have e3 := Nat.le_trans s56 T7.size; refine wpList_app kindJob rfl (.tmp 60) (.tmp 65) rfl _ _ _ rfl O7 _ _ [((2, bin, x, port) : Jb)] rfl L7 e1 e2 e3 ?_; intro v8 x8 own8 g8 at8))
          have S7 := bcat S6 T7 (Nat.le_refl _)
          have O7lt := fun k (e : vo.ownBlock = some k) => (own_since O7 k e).1
          have S8 : Below w3.heap.size w3 x8 := S7.grown g8 (by have := T7.size; omega) (fun k e => by have := O7lt k e; omega)
          have B8 := bcat HB3.out S8 (Nat.le_refl _)
          have hb8 := HBk.out _ S8
          obtain ⟨F1, hF1⟩ : ∃ F1, J ++ [((2, bin, x, port) : Jb)] = F1 := ⟨_, rfl⟩
          have HF1 : Hid (J ++ [((2, bin, x, port) : Jb)] = F1) := hF1
          have hF1l : F1.length = an + 1 := by rw [← hF1, List.length_append, HJl.out]; rfl
          rw [hF1] at own8
          obtain ⟨a8, c8, hv8, hn8, _⟩ := own_form own8
          rw [hF1l] at hv8 hn8
          obtain ⟨ga, hga⟩ : ∃ ga, a8 = some ga := by
            cases a8 with
            | none => have := (hn8 rfl).1; omega
            | some ga => exact ⟨ga, rfl⟩
          subst hga
          clear hn8
          have HO8 : Hid (x8.ownsRow x5.heap.size 41 9 v8 F1.length (rowL jobL F1)) := own8
          have HF1l : Hid (F1.length = an + 1) := hF1l
          have sx8 := g8.size
          have st7 := T7.size
          clear hF1 O7 L7 e1 e2 e3 g8 at8 bA T7 own8 hF1l O7lt
          subst hv8
          cases hbk : c.back with
          | false =>
            rw [hbk] at hb8
            go_wp2_with fail
            refine bodyPost_ret (results_tmp2 rfl _ _ _) rfl ⟨_, rfl, ⟨F1, _, _, rfl, ?_, own_lower HO8.out (by omega)⟩, B8⟩
            refine HJr.out _ _ (Or.inr ⟨by rw [← HAn.out, HPn.out]; omega, by rw [HPn.out]; omega, ?_, rfl⟩)
            unfold jobsP
            rw [HJ.out, HF1.out, hbk]
            simp
          | true =>
            rw [hbk] at hb8
            have htk := run_take_job HO8.out an (by rw [HF1l.out]; omega)
            have hOt := own_take kindJob.len HO8.out an (by rw [HF1l.out]; omega)
            have hFt1 : F1.take an = J := by rw [← HF1.out, List.take_append_of_le_length (by rw [HJl.out]; exact Nat.le_refl _), List.take_of_length_le (by rw [HJl.out]; exact Nat.le_refl _)]
            rw [hFt1] at hOt
            have hLt := list_of_own kindJob.len hOt
            have htk : ∀ u, (Instr.sliceAt 32 (.slice (some ga) (an + 1) c8) none (some (.int .i64 an)) none).run Try.prog u = .ok (.slice (some ga) an c8) u := htk
            simp only [takeV] at hLt
            obtain ⟨css, hcss⟩ : ∃ css : Nat → Jb, ∀ i (h : i < J.length), css i = J[i]'h := ⟨fun i => J.getD i (0, 0, (0, 0), (0, 0)), fun i h => by show J.getD i _ = _; rw [List.getD_eq_getElem?_getD, List.getElem?_eq_getElem h]; rfl⟩
            have cG := agains_any (Since x5.heap.size x8) J (some ga) an c8 x8 hLt (fun q h => h.2) (by omega) css hcss
            have hdm := down_map J hcss
            rw [HJl.out] at hdm
            rw [hdm] at cG
            have HAg : Hid (((J.map agP).reverse).length = an) := by show _ = _; rw [List.length_reverse, List.length_map]; exact HJl.out
            clear hOt hFt1 hLt hdm hcss
            go_wp2_with (first
              | (refine wpList_take rfl (.tmp 70) (.tmp 72) rfl (.slice (some ga) (an + 1) c8) (.int .i64 an) (.slice (some ga) an c8) rfl rfl (htk _) ?_)
              | (go_at_call 23; refine cG.mono ?_; rintro e x9 ⟨v9, rfl, own9, b9⟩)
              | (at_builtin; have O9 := owns_go HO8.out b9; have L9 := list_of_own kindJob.len own9; have e1 : (F1.length + ((J.map agP).reverse).length) * 72 ≤ 140737488355328 := (by have := HAg.out; have := HF1l.out; omega); have e2 : F1.length + ((J.map agP).reverse).length ≤ maxLen := (by have := HAg.out; have := HF1l.out; unfold maxLen; omega); have e3 := Nat.le_trans (show x5.heap.size ≤ x8.heap.size by omega) b9.size; refine wpList_app kindJob rfl (.tmp 69) (.tmp 74) rfl _ _ _ rfl O9 _ _ ((J.map agP).reverse) rfl L9 e1 e2 e3 ?_; intro v10 x10 own10 g10 at10))
            have B10 := (bcat B8 b9 (Nat.le_refl _)).grown g10 (by have := B8.size; have := b9.size; omega) (fun k e => by have := (own_since O9 k e).1; omega)
            refine bodyPost_ret (results_tmp2 rfl _ _ _) rfl ⟨_, rfl, ⟨_, _, _, rfl, ?_, own_lower own10 (by omega)⟩, B10⟩
            refine HJr.out _ _ (Or.inr ⟨by rw [← HAn.out, HPn.out]; omega, by rw [HPn.out]; omega, ?_, rfl⟩)
            unfold jobsP
            rw [HJ.out, HF1.out, hbk]
            simp
end Go.Proofs.Ytebfjldbhmmmlaa.Dig
