/-
  The chapter's own May: the walk.
-/
import Derived.Test.YtedhoghleelhfaaGreatQRgI
namespace Go.Proofs.YtedhoghleelhfaaGreat.Grid
set_option linter.unusedVariables false
set_option linter.unusedSimpArgs false
open Go Go.RowKit Go.Shelf Go.Proofs
attribute [local go_sem] Oper.semAt_some

def good1 (c : Conf) (b : Cell) : Prop := In c.W c.H b ∧ c.blocked.count b ≤ 1 ∧ c.ports.count b = 0
def good2 (c : Conf) (b : Cell) : Prop := In c.W c.H b ∧ c.ports.count b ≤ 1 ∧ b ∉ homes c ∧ besideR c b
theorem all_next {α : Type} {l : List α} {G : α → Prop} {k : Nat} (hk : k < l.length) (h : ∀ b ∈ l.take k, G b) (hg : G (l[k]'hk)) : ∀ b ∈ l.take (k + 1), G b := by
  intro b hb
  rw [List.take_add_one, List.getElem?_eq_getElem hk] at hb
  rcases List.mem_append.1 hb with q | q
  · exact h b q
  · simp at q; rw [q]; exact hg
def homeT (c : Conf) (k : Nat) : List Cell := (c.robots.take k).flatMap cellsOf
theorem flat_len (l : List Pose) : (l.flatMap cellsOf).length = 2 * l.length := by
  induction l with
  | nil => rfl
  | cons x l ih => rw [List.flatMap_cons, List.length_append, ih, List.length_cons]; simp [cellsOf]; omega
theorem homeT_len (c : Conf) (k : Nat) : (homeT c k).length = 2 * min k c.robots.length := by
  unfold homeT
  rw [flat_len, List.length_take]
structure Nd (w : World) (c : Conf) (cs : Array Value) (v : Value) (k : Nat) (wr : World) : Prop where
  box : One w cs wr
  own : wr.ownsRow (w.heap.size + 1) 40 2 v (homeT c k).length (rowL cellL (homeT c k))
  good : ∀ r ∈ c.robots.take k, fitsR c r
theorem Nd.go {w : World} {c : Conf} {cs : Array Value} {v : Value} {k : Nat} {wr W' : World} (h : Nd w c cs v k wr) (hb : Below wr.heap.size wr W') : Nd w c cs v k W' := ⟨h.box.go hb, owns_go h.own hb, h.good⟩
theorem Nd.next {w : World} {c : Conf} {cs : Array Value} {v : Value} {k : Nat} {wr : World} (h : Nd w c cs v k wr) (hk : k < c.robots.length) (hs : fitsR c (c.robots[k]'hk)) {v' : Value} {W' : World}
    (ho : W'.ownsRow (w.heap.size + 1) 40 2 v' (homeT c k ++ cellsOf (c.robots[k]'hk)).length (rowL cellL (homeT c k ++ cellsOf (c.robots[k]'hk)))) (hg : wr.grownBy W' v.ownBlock) : Nd w c cs v' (k + 1) W' := by
  have e : homeT c (k + 1) = homeT c k ++ cellsOf (c.robots[k]'hk) := flat_take c.robots cellsOf k hk
  have hlt := h.own.lt
  exact ⟨⟨h.box.below.grown hg h.box.below.size (fun g q => by have := (hlt g q).1; omega), (hg.block _ (lt_of_heap h.box.a) (fun q => by have := (hlt _ q.symm).1; omega)).trans h.box.a⟩, by rw [e]; exact ho, all_next hk h.good hs⟩
set_option maxRecDepth 100000 in
set_option maxHeartbeats 8000000 in
theorem mayR_any (F : Nat → Prop) (c : Conf) (vb vp vr vs : Value) (w : World) (hA : ConfAt F c vb vp vr vs w) (hF : ∀ b, F b → b < w.heap.size) (h1 : c.blocked.length ≤ 9223372036854775807) (h2 : c.ports.length ≤ 9223372036854775807) (h3 : c.robots.length ≤ 9223372036854775807) (hms : c.stacks.length ≤ 3518437208880) (hbs : ∀ s ∈ c.stacks, s.2.length ≤ 17592186044416) :
    Calls Tryz.prog 7 #[.agg #[.int .i64 c.W, .int .i64 c.H, .int .i64 c.height, vb, vp, vr, vs, .int .i64 c.unit, .int .i64 c.accel, .int .i64 c.speed, .int .i64 c.turn, .int .i64 c.hoist, .int .i64 c.queue, .int .i64 c.resend, .int .i64 c.budget, .bool c.back]] w fun e w' => ∃ r, e = .returned r ∧ r = .bool (newP c).isSome ∧ Below w.heap.size w w' := by
  obtain ⟨a1, cap1, hv1, e1⟩ := hA.b.form
  obtain ⟨a2, cap2, hv2, e2⟩ := hA.p.form
  obtain ⟨a3, cap3, hv3, e3⟩ := hA.r.form
  subst hv1 hv2 hv3
  have L := fun (u : World) (b : Below w.heap.size w u) g (hg : F g) => Nat.lt_of_lt_of_le (hF g hg) b.size
  have cN := fun u => numbersR_any c (.slice a1 c.blocked.length cap1) (.slice a2 c.ports.length cap2) (.slice a3 c.robots.length cap3) vs u
  have cI := fun x y u => inR_any _ c (.slice a1 c.blocked.length cap1) (.slice a2 c.ports.length cap2) (.slice a3 c.robots.length cap3) vs x y u (cells_conf c _ _ _ _)
  have cB := fun x y u (b : Below w.heap.size w u) => among_any F c.blocked _ x y u (hA.b.go heldCell hF b) (L u b) h1
  have cP := fun x y u (b : Below w.heap.size w u) => among_any F c.ports _ x y u (hA.p.go heldCell hF b) (L u b) h2
  have cH := fun x y u (b : Below w.heap.size w u) => homeR_any F c _ _ _ _ x y u (hA.go hF b) (L u b) h3
  have cE := fun x y u (b : Below w.heap.size w u) => besideR_any F c _ _ _ _ x y u (hA.go hF b) (L u b) h1
  have cF := fun x y d u (b : Below w.heap.size w u) => fitsR_any F c _ _ _ _ x y d u (hA.go hF b) (L u b) h1
  have cZ := fun u (b : Below w.heap.size w u) (h8 : c.height ≤ 8) => binsR_any F c _ _ _ _ u (hA.go hF b) (L u b) h1 h2 h3 hms hbs h8
  have hFb : ∀ wr, Below w.heap.size w wr → ListAt 2 cellEl F c.blocked _ wr := fun wr b => hA.b.go heldCell hF b
  have hFp : ∀ wr, Below w.heap.size w wr → ListAt 2 cellEl F c.ports _ wr := fun wr b => hA.p.go heldCell hF b
  have hFr : ∀ wr, Below w.heap.size w wr → ListAt 3 poseEl F c.robots _ wr := fun wr b => hA.r.go heldPose hF b
  unfold confCells at cI
  obtain ⟨n1, hn1⟩ : ∃ n, c.blocked.length = n := ⟨_, rfl⟩
  obtain ⟨n2, hn2⟩ : ∃ n, c.ports.length = n := ⟨_, rfl⟩
  obtain ⟨n3, hn3⟩ : ∃ n, c.robots.length = n := ⟨_, rfl⟩
  have H1 : Hid (c.blocked.length = n1) := hn1
  have H2 : Hid (c.ports.length = n2) := hn2
  have H3 : Hid (c.robots.length = n3) := hn3
  generalize hR : (newP c).isSome = R
  have HR : Hid ((newP c).isSome = R) := hR
  have HL0 : Hid (limited c = false → R = false) := fun h => HR.out ▸ may_limited h
  have HL1 : Hid (¬ n2 ≤ 8 → R = false) := fun h => HR.out ▸ may_ports (by rw [H2.out]; exact h)
  have HL2 : Hid (¬ n3 ≤ 8 → R = false) := fun h => HR.out ▸ may_robots (by rw [H3.out]; exact h)
  have HL3 : Hid (¬ n1 ≤ 256 → R = false) := fun h => HR.out ▸ may_blocked (by rw [H1.out]; exact h)
  try rw [hn1] at cN
  try rw [hn2] at cN
  try rw [hn3] at cN
  try rw [hn1] at cI
  try rw [hn2] at cI
  try rw [hn3] at cI
  try rw [hn1] at cB
  try rw [hn2] at cB
  try rw [hn3] at cB
  try rw [hn1] at cP
  try rw [hn2] at cP
  try rw [hn3] at cP
  try rw [hn1] at cH
  try rw [hn2] at cH
  try rw [hn3] at cH
  try rw [hn1] at cE
  try rw [hn2] at cE
  try rw [hn3] at cE
  try rw [hn1] at cF
  try rw [hn2] at cF
  try rw [hn3] at cF
  try rw [hn1] at cZ
  try rw [hn2] at cZ
  try rw [hn3] at cZ
  try rw [hn1] at hFb
  try rw [hn2] at hFb
  try rw [hn3] at hFb
  try rw [hn1] at hFp
  try rw [hn2] at hFp
  try rw [hn3] at hFp
  try rw [hn1] at hFr
  try rw [hn2] at hFr
  try rw [hn3] at hFr
  try rw [hn1] at h1
  try rw [hn2] at h1
  try rw [hn3] at h1
  try rw [hn1] at h2
  try rw [hn2] at h2
  try rw [hn3] at h2
  try rw [hn1] at h3
  try rw [hn2] at h3
  try rw [hn3] at h3
  try rw [hn1]
  try rw [hn2]
  try rw [hn3]
  clear hn1 hn2 hn3 hA L hR hbs e1 e2 e3
  have hide : ∀ {p : Prop}, p → Hid p := fun h => h
  replace cI := hide cI
  replace cB := hide cB
  replace cP := hide cP
  replace cH := hide cH
  replace cE := hide cE
  replace cF := hide cF
  replace cZ := hide cZ
  replace hFb := hide hFb
  replace hFp := hide hFp
  replace hFr := hide hFr
  clear hide
  have Q0 : Hid (One w #[.int .i64 c.W, .int .i64 c.H, .int .i64 c.height, .slice a1 n1 cap1, .slice a2 n2 cap2, .slice a3 n3 cap3, vs, .int .i64 c.unit, .int .i64 c.accel, .int .i64 c.speed, .int .i64 c.turn, .int .i64 c.hoist, .int .i64 c.queue, .int .i64 c.resend, .int .i64 c.budget, .bool c.back] (w.alloc (.cells #[.int .i64 c.W, .int .i64 c.H, .int .i64 c.height, .slice a1 n1 cap1, .slice a2 n2 cap2, .slice a3 n3 cap3, vs, .int .i64 c.unit, .int .i64 c.accel, .int .i64 c.speed, .int .i64 c.turn, .int .i64 c.hoist, .int .i64 c.queue, .int .i64 c.resend, .int .i64 c.budget, .bool c.back] 26))) := ⟨below_new (Below.refl _ _) _, heap_alloc_new w _⟩
  obtain ⟨lm, hlm⟩ : ∃ lm, limited c = lm := ⟨_, rfl⟩
  have HLM : Hid (limited c = lm) := hlm
  rw [hlm] at cN HL0
  clear hlm
  cases lm
  · have HT : Hid (R = false) := HL0.out rfl
    go_enter Tryz.func7, Tryz.ntmps7
    go_wp2_with (first
      | (refine wpList_load_row rfl 26 (.tmp 1) rfl w.heap.size rfl 26 #[.int .i64 c.W, .int .i64 c.H, .int .i64 c.height, .slice a1 n1 cap1, .slice a2 n2 cap2, .slice a3 n3 cap3, vs, .int .i64 c.unit, .int .i64 c.accel, .int .i64 c.speed, .int .i64 c.turn, .int .i64 c.hoist, .int .i64 c.queue, .int .i64 c.resend, .int .i64 c.budget, .bool c.back] (0, 0) _ Q0.out.a Tryz.underlying26 rfl info_conf ?_)
      | (go_at_call 17; refine (cN _).mono ?_; rintro e w1 ⟨r1, rfl, rfl, b1⟩; have Q1 : Hid (One w #[.int .i64 c.W, .int .i64 c.H, .int .i64 c.height, .slice a1 n1 cap1, .slice a2 n2 cap2, .slice a3 n3 cap3, vs, .int .i64 c.unit, .int .i64 c.accel, .int .i64 c.speed, .int .i64 c.turn, .int .i64 c.hoist, .int .i64 c.queue, .int .i64 c.resend, .int .i64 c.budget, .bool c.back] w1) := Q0.out.go b1; have d3 := cell_of Q1.out.a 3; have d4 := cell_of Q1.out.a 4; have d5 := cell_of Q1.out.a 5))
    go_ret
    exact ⟨_, rfl, congrArg Value.bool HT.out.symm, Q1.out.below⟩
  · by_cases h8 : n2 ≤ 8
    rotate_left
    · have h8i : (8 : Int) < (n2 : Int) := by omega
      have HT : Hid (R = false) := HL1.out h8
      go_enter Tryz.func7, Tryz.ntmps7
      go_wp2_with (first
        | (refine wpList_load_row rfl 26 (.tmp 1) rfl w.heap.size rfl 26 #[.int .i64 c.W, .int .i64 c.H, .int .i64 c.height, .slice a1 n1 cap1, .slice a2 n2 cap2, .slice a3 n3 cap3, vs, .int .i64 c.unit, .int .i64 c.accel, .int .i64 c.speed, .int .i64 c.turn, .int .i64 c.hoist, .int .i64 c.queue, .int .i64 c.resend, .int .i64 c.budget, .bool c.back] (0, 0) _ Q0.out.a Tryz.underlying26 rfl info_conf ?_)
        | (go_at_call 17; refine (cN _).mono ?_; rintro e w1 ⟨r1, rfl, rfl, b1⟩; have Q1 : Hid (One w #[.int .i64 c.W, .int .i64 c.H, .int .i64 c.height, .slice a1 n1 cap1, .slice a2 n2 cap2, .slice a3 n3 cap3, vs, .int .i64 c.unit, .int .i64 c.accel, .int .i64 c.speed, .int .i64 c.turn, .int .i64 c.hoist, .int .i64 c.queue, .int .i64 c.resend, .int .i64 c.budget, .bool c.back] w1) := Q0.out.go b1; have d3 := cell_of Q1.out.a 3; have d4 := cell_of Q1.out.a 4; have d5 := cell_of Q1.out.a 5))
      go_ret
      exact ⟨_, rfl, congrArg Value.bool HT.out.symm, Q1.out.below⟩
    have h8i : ¬ (8 : Int) < (n2 : Int) := by omega
    by_cases h9 : n3 ≤ 8
    rotate_left
    · have h9i : (8 : Int) < (n3 : Int) := by omega
      have HT : Hid (R = false) := HL2.out h9
      go_enter Tryz.func7, Tryz.ntmps7
      go_wp2_with (first
        | (refine wpList_load_row rfl 26 (.tmp 1) rfl w.heap.size rfl 26 #[.int .i64 c.W, .int .i64 c.H, .int .i64 c.height, .slice a1 n1 cap1, .slice a2 n2 cap2, .slice a3 n3 cap3, vs, .int .i64 c.unit, .int .i64 c.accel, .int .i64 c.speed, .int .i64 c.turn, .int .i64 c.hoist, .int .i64 c.queue, .int .i64 c.resend, .int .i64 c.budget, .bool c.back] (0, 0) _ Q0.out.a Tryz.underlying26 rfl info_conf ?_)
        | (go_at_call 17; refine (cN _).mono ?_; rintro e w1 ⟨r1, rfl, rfl, b1⟩; have Q1 : Hid (One w #[.int .i64 c.W, .int .i64 c.H, .int .i64 c.height, .slice a1 n1 cap1, .slice a2 n2 cap2, .slice a3 n3 cap3, vs, .int .i64 c.unit, .int .i64 c.accel, .int .i64 c.speed, .int .i64 c.turn, .int .i64 c.hoist, .int .i64 c.queue, .int .i64 c.resend, .int .i64 c.budget, .bool c.back] w1) := Q0.out.go b1; have d3 := cell_of Q1.out.a 3; have d4 := cell_of Q1.out.a 4; have d5 := cell_of Q1.out.a 5))
      go_ret
      exact ⟨_, rfl, congrArg Value.bool HT.out.symm, Q1.out.below⟩
    have h9i : ¬ (8 : Int) < (n3 : Int) := by omega
    by_cases h10 : n1 ≤ 256
    rotate_left
    · have h10i : (256 : Int) < (n1 : Int) := by omega
      have HT : Hid (R = false) := HL3.out h10
      go_enter Tryz.func7, Tryz.ntmps7
      go_wp2_with (first
        | (refine wpList_load_row rfl 26 (.tmp 1) rfl w.heap.size rfl 26 #[.int .i64 c.W, .int .i64 c.H, .int .i64 c.height, .slice a1 n1 cap1, .slice a2 n2 cap2, .slice a3 n3 cap3, vs, .int .i64 c.unit, .int .i64 c.accel, .int .i64 c.speed, .int .i64 c.turn, .int .i64 c.hoist, .int .i64 c.queue, .int .i64 c.resend, .int .i64 c.budget, .bool c.back] (0, 0) _ Q0.out.a Tryz.underlying26 rfl info_conf ?_)
        | (go_at_call 17; refine (cN _).mono ?_; rintro e w1 ⟨r1, rfl, rfl, b1⟩; have Q1 : Hid (One w #[.int .i64 c.W, .int .i64 c.H, .int .i64 c.height, .slice a1 n1 cap1, .slice a2 n2 cap2, .slice a3 n3 cap3, vs, .int .i64 c.unit, .int .i64 c.accel, .int .i64 c.speed, .int .i64 c.turn, .int .i64 c.hoist, .int .i64 c.queue, .int .i64 c.resend, .int .i64 c.budget, .bool c.back] w1) := Q0.out.go b1; have d3 := cell_of Q1.out.a 3; have d4 := cell_of Q1.out.a 4; have d5 := cell_of Q1.out.a 5))
      go_ret
      exact ⟨_, rfl, congrArg Value.bool HT.out.symm, Q1.out.below⟩
    have h10i : ¬ (256 : Int) < (n1 : Int) := by omega
    go_enter Tryz.func7, Tryz.ntmps7
    go_wp2_with (first
      | (refine wpList_load_row rfl 26 (.tmp 1) rfl w.heap.size rfl 26 #[.int .i64 c.W, .int .i64 c.H, .int .i64 c.height, .slice a1 n1 cap1, .slice a2 n2 cap2, .slice a3 n3 cap3, vs, .int .i64 c.unit, .int .i64 c.accel, .int .i64 c.speed, .int .i64 c.turn, .int .i64 c.hoist, .int .i64 c.queue, .int .i64 c.resend, .int .i64 c.budget, .bool c.back] (0, 0) _ Q0.out.a Tryz.underlying26 rfl info_conf ?_)
      | (go_at_call 17; refine (cN _).mono ?_; rintro e w1 ⟨r1, rfl, rfl, b1⟩; have Q1 : Hid (One w #[.int .i64 c.W, .int .i64 c.H, .int .i64 c.height, .slice a1 n1 cap1, .slice a2 n2 cap2, .slice a3 n3 cap3, vs, .int .i64 c.unit, .int .i64 c.accel, .int .i64 c.speed, .int .i64 c.turn, .int .i64 c.hoist, .int .i64 c.queue, .int .i64 c.resend, .int .i64 c.budget, .bool c.back] w1) := Q0.out.go b1; have d3 := cell_of Q1.out.a 3; have d4 := cell_of Q1.out.a 4; have d5 := cell_of Q1.out.a 5))
    go_loopw [3] (fun i wq => ∃ k : Nat, k ≤ n1 ∧ i = .int .i64 k ∧ Hid (One w #[.int .i64 c.W, .int .i64 c.H, .int .i64 c.height, .slice a1 n1 cap1, .slice a2 n2 cap2, .slice a3 n3 cap3, vs, .int .i64 c.unit, .int .i64 c.accel, .int .i64 c.speed, .int .i64 c.turn, .int .i64 c.hoist, .int .i64 c.queue, .int .i64 c.resend, .int .i64 c.budget, .bool c.back] wq) ∧ Hid (∀ b ∈ c.blocked.take k, good1 c b)) (fun i _ => n1 - (intOf i).toNat)
    case atStart => exact ⟨0, Nat.zero_le _, rfl, Q1, fun b hb => by simp at hb⟩
    case round =>
      obtain ⟨k, hk, rfl, HQ, HG⟩ := hrel
      clear d3 d4 d5 b1 Q0 Q1
      have k3 : wr.cell? ⟨w.heap.size, 3, none⟩ = some (.slice a1 n1 cap1) := cell_of HQ.out.a 3
      have k4 : wr.cell? ⟨w.heap.size, 4, none⟩ = some (.slice a2 n2 cap2) := cell_of HQ.out.a 4
      by_cases hlt : k < n1
      · have hlt' : k < c.blocked.length := by rw [H1.out]; exact hlt
        have B := HQ.out.below
        have eA := HQ.out.a
        have HBad : Hid (¬ good1 c (c.blocked[k]'hlt') → R = false) := fun h => HR.out ▸ may_b (List.getElem_mem hlt') h
        have HNx : Hid (good1 c (c.blocked[k]'hlt') → ∀ b ∈ c.blocked.take (k + 1), good1 c b) := fun h => all_next hlt' HG.out h
        obtain ⟨p, cs, cap', hv, hpF, hcs, hrd⟩ := (hFb.out wr B).item hlt'
        generalize c.blocked[k]'hlt' = qr at *
        obtain ⟨x, y⟩ := qr
        obtain rfl := hcs
        rw [H1.out] at hv
        obtain ⟨rfl, rfl⟩ : a1 = some p ∧ cap1 = cap' := by injection hv with h1 h2 h3; exact ⟨h1, h3⟩
        clear hv
        have c1 := cI.out x y
        have c2 := cB.out x y
        have c3 := cP.out x y
        obtain ⟨ib, hib⟩ : ∃ ib, decide (In c.W c.H (x, y)) = ib := ⟨_, rfl⟩
        obtain ⟨m1, hm1⟩ : ∃ m, c.blocked.count (x, y) = m := ⟨_, rfl⟩
        obtain ⟨m2, hm2⟩ : ∃ m, c.ports.count (x, y) = m := ⟨_, rfl⟩
        have HG1 : Hid (ib = true → m1 ≤ 1 → m2 = 0 → good1 c (x, y)) := fun q1 q2 q3 => ⟨of_decide_eq_true (hib.trans q1), by rw [hm1]; exact q2, by rw [hm2]; exact q3⟩
        have HG2 : Hid (good1 c (x, y) → ib = true ∧ m1 ≤ 1 ∧ m2 = 0) := fun q => ⟨by rw [← hib]; exact decide_eq_true q.1, by rw [← hm1]; exact q.2.1, by rw [← hm2]; exact q.2.2⟩
        rw [hib] at c1
        rw [hm1] at c2
        rw [hm2] at c3
        clear hib hm1 hm2
        go_wp2
        obtain ⟨IH, hIH⟩ : ∃ I : World → Prop, I = Below wr.heap.size wr := ⟨_, rfl⟩
        have kI : ∀ u, IH u → Below wr.heap.size wr u := fun u hu => by rw [hIH] at hu; exact hu
        have hS : IH wr.drew := by rw [hIH]; exact (Below.refl _ _).drew
        have D0 : Below wr.heap.size wr wr.drew := (Below.refl _ _).drew
        have HCF : Hid (∀ u, IH u → ∀ j z, #[.int .i64 c.W, .int .i64 c.H, .int .i64 c.height, .slice (some p) n1 cap1, .slice a2 n2 cap2, .slice a3 n3 cap3, vs, .int .i64 c.unit, .int .i64 c.accel, .int .i64 c.speed, .int .i64 c.turn, .int .i64 c.hoist, .int .i64 c.queue, .int .i64 c.resend, .int .i64 c.budget, .bool c.back][j]? = some z → u.cell? ((⟨w.heap.size, 0, none⟩ : Addr).add j) = some z) := fun u hu => row_below eA (kI u hu)
        have z3 : ∀ u, IH u → u.cell? ⟨w.heap.size, 3, none⟩ = some (.slice (some p) n1 cap1) := fun u hu => cell_below k3 (kI u hu)
        have z4 : ∀ u, IH u → u.cell? ⟨w.heap.size, 4, none⟩ = some (.slice a2 n2 cap2) := fun u hu => cell_below k4 (kI u hu)
        have HX : Hid (∀ u, IH u → ∀ j z, #[Value.int .i64 x, .int .i64 y][j]? = some z → u.cell? ((p.add (k * 2)).add j) = some z) := fun u hu j z hj => cell_below (hrd j z hj) (kI u hu)
        clear hrd
        refine start_held (S := IH) 30 rfl (by kernel_rfl) (hS) ?_
        simp only [Array.replicate_succ, Array.replicate_zero, List.push_toArray, List.nil_append, List.cons_append]
        refine tkf 0 (by assumption) rfl (v := .agg #[.int .i64 c.W, .int .i64 c.H, .int .i64 c.height, .slice (some p) n1 cap1, .slice a2 n2 cap2, .slice a3 n3 cap3, vs, .int .i64 c.unit, .int .i64 c.accel, .int .i64 c.speed, .int .i64 c.turn, .int .i64 c.hoist, .int .i64 c.queue, .int .i64 c.resend, .int .i64 c.budget, .bool c.back]) (fun u hu => by exact run_load_op 26 _ rfl ⟨w.heap.size, 0, none⟩ _ rfl (HCF.out u hu) (aggConf u) info_conf) ?_
        refine tkq 1 (by assumption) ?_
        refine tkf 2 (by assumption) rfl (fun u hu => by have zz0 := z3 u hu; go_simp; try rfl) ?_
        refine tkq 3 (by assumption) ?_
        refine tkq 4 (by assumption) ?_
        refine tkf 5 (by assumption) rfl (v := .agg #[.int .i64 x, .int .i64 y]) (fun u hu => by exact run_load_op 40 _ rfl (p.add (k * 2)) _ rfl (HX.out u hu) (aggCell u) infoCell2) ?_
        refine wpAnyH_ready (rs := [6]) (by kernel_rfl) (by simp) (AllReadyH.cons ((nth_eq _ 6).trans rfl) ?_ AllReadyH.nil)
        intro K' hK
        refine call_in hK (by kernel_rfl) 18 #[.agg #[.int .i64 c.W, .int .i64 c.H, .int .i64 c.height, .slice (some p) n1 cap1, .slice a2 n2 cap2, .slice a3 n3 cap3, vs, .int .i64 c.unit, .int .i64 c.accel, .int .i64 c.speed, .int .i64 c.turn, .int .i64 c.hoist, .int .i64 c.queue, .int .i64 c.resend, .int .i64 c.budget, .bool c.back], .agg #[.int .i64 x, .int .i64 y]] (by go_simp) _ (c1 _) ?_
        rintro v w5 ⟨rfl, b5⟩
        have D5 := bcat D0 b5 (Nat.le_refl _)
        have hS5 : IH w5 := by rw [hIH]; exact D5
        refine ⟨hS5, ?_⟩
        simp only [Act.put, List.setIfInBounds_toArray, List.set_cons_zero, List.set_cons_succ]
        cases ib
        · have HT : Hid (R = false) := HBad.out (fun q => by have := (HG2.out q).1; cases this)
          refine tkq 7 (by assumption) ?_
          refine tkq 8 (by assumption) ?_
          refine skq 9 (by assumption) ?_
          refine skq 10 (by assumption) ?_
          refine skq 11 (by assumption) ?_
          refine skq 12 (by assumption) ?_
          refine skq 13 (by assumption) ?_
          refine skq 14 (by assumption) ?_
          refine skq 15 (by assumption) ?_
          refine skq 16 (by assumption) ?_
          refine skq 17 (by assumption) ?_
          refine tkq 18 (by assumption) ?_
          refine tkq 19 (by assumption) ?_
          refine skq 20 (by assumption) ?_
          refine skq 21 (by assumption) ?_
          refine skq 22 (by assumption) ?_
          refine skq 23 (by assumption) ?_
          refine skq 24 (by assumption) ?_
          refine skq 25 (by assumption) ?_
          refine skq 26 (by assumption) ?_
          refine skq 27 (by assumption) ?_
          refine skq 28 (by assumption) ?_
          refine tkq 29 (by assumption) ?_
          refine done_held (by kernel_rfl) ?_ _
          go_wp2
          go_ret
          exact ⟨_, rfl, congrArg Value.bool HT.out.symm, bcat B D5 (Nat.le_refl _)⟩
        · skip
          refine tkq 7 (by assumption) ?_
          refine tkq 8 (by assumption) ?_
          refine tkq 9 (by assumption) ?_
          refine tkf 10 (by assumption) rfl (fun u hu => by have zz0 := z3 u hu; go_simp; try rfl) ?_
          refine tkq 11 (by assumption) ?_
          refine tkf 12 (by assumption) rfl (fun u hu => by have zz0 := z3 u hu; go_simp; try rfl) ?_
          refine tkq 13 (by assumption) ?_
          refine tkq 14 (by assumption) ?_
          refine tkf 15 (by assumption) rfl (v := .agg #[.int .i64 x, .int .i64 y]) (fun u hu => by exact run_load_op 40 _ rfl (p.add (k * 2)) _ rfl (HX.out u hu) (aggCell u) infoCell2) ?_
          refine wpAnyH_ready (rs := [16]) (by kernel_rfl) (by simp) (AllReadyH.cons ((nth_eq _ 16).trans rfl) ?_ AllReadyH.nil)
          intro K' hK
          refine call_in hK (by kernel_rfl) 19 #[.slice (some p) n1 cap1, .agg #[.int .i64 x, .int .i64 y]] (by go_simp) _ (c2 _ (bcat B D5 (Nat.le_refl _))) ?_
          rintro v w6 ⟨rfl, b6⟩
          have D6 := bcat D5 b6 (Nat.le_refl _)
          have hS6 : IH w6 := by rw [hIH]; exact D6
          refine ⟨hS6, ?_⟩
          simp only [Act.put, List.setIfInBounds_toArray, List.set_cons_zero, List.set_cons_succ]
          by_cases g1 : m1 ≤ 1
          rotate_left
          · have HT : Hid (R = false) := HBad.out (fun q => g1 (HG2.out q).2.1)
            have g1i : (1 : Int) < (m1 : Int) := by omega
            refine tkf 17 (by assumption) rfl (v := .bool true) (fun u hu => by go_simp; try simp [g1i]; try omega) ?_
            refine tkq 18 (by assumption) ?_
            refine tkq 19 (by assumption) ?_
            refine skq 20 (by assumption) ?_
            refine skq 21 (by assumption) ?_
            refine skq 22 (by assumption) ?_
            refine skq 23 (by assumption) ?_
            refine skq 24 (by assumption) ?_
            refine skq 25 (by assumption) ?_
            refine skq 26 (by assumption) ?_
            refine skq 27 (by assumption) ?_
            refine skq 28 (by assumption) ?_
            refine tkq 29 (by assumption) ?_
            refine done_held (by kernel_rfl) ?_ _
            go_wp2
            go_ret
            exact ⟨_, rfl, congrArg Value.bool HT.out.symm, bcat B D6 (Nat.le_refl _)⟩
          have g1i : ¬ (1 : Int) < (m1 : Int) := by omega
          refine tkf 17 (by assumption) rfl (v := .bool false) (fun u hu => by go_simp; try simp [g1i]; try omega) ?_
          refine tkq 18 (by assumption) ?_
          refine tkq 19 (by assumption) ?_
          refine tkq 20 (by assumption) ?_
          refine tkf 21 (by assumption) rfl (fun u hu => by have zz0 := z4 u hu; go_simp; try rfl) ?_
          refine tkq 22 (by assumption) ?_
          refine tkf 23 (by assumption) rfl (fun u hu => by have zz0 := z3 u hu; go_simp; try rfl) ?_
          refine tkq 24 (by assumption) ?_
          refine tkq 25 (by assumption) ?_
          refine tkf 26 (by assumption) rfl (v := .agg #[.int .i64 x, .int .i64 y]) (fun u hu => by exact run_load_op 40 _ rfl (p.add (k * 2)) _ rfl (HX.out u hu) (aggCell u) infoCell2) ?_
          refine wpAnyH_ready (rs := [27]) (by kernel_rfl) (by simp) (AllReadyH.cons ((nth_eq _ 27).trans rfl) ?_ AllReadyH.nil)
          intro K' hK
          refine call_in hK (by kernel_rfl) 19 #[.slice a2 n2 cap2, .agg #[.int .i64 x, .int .i64 y]] (by go_simp) _ (c3 _ (bcat B D6 (Nat.le_refl _))) ?_
          rintro v w7 ⟨rfl, b7⟩
          have D7 := bcat D6 b7 (Nat.le_refl _)
          have hS7 : IH w7 := by rw [hIH]; exact D7
          refine ⟨hS7, ?_⟩
          simp only [Act.put, List.setIfInBounds_toArray, List.set_cons_zero, List.set_cons_succ]
          by_cases g2 : m2 = 0
          rotate_left
          · have HT : Hid (R = false) := HBad.out (fun q => g2 (HG2.out q).2.2)
            have g2i : (0 : Int) < (m2 : Int) := by omega
            refine tkf 28 (by assumption) rfl (v := .bool true) (fun u hu => by go_simp; first | exact Nat.pos_of_ne_zero g2 | omega | simp [g2i]) ?_
            refine tkq 29 (by assumption) ?_
            refine done_held (by kernel_rfl) ?_ _
            go_wp2
            go_ret
            exact ⟨_, rfl, congrArg Value.bool HT.out.symm, bcat B D7 (Nat.le_refl _)⟩
          have g2i : ¬ (0 : Int) < (m2 : Int) := by omega
          refine tkf 28 (by assumption) rfl (v := .bool false) (fun u hu => by go_simp; try simp [g2i]; try omega) ?_
          refine tkq 29 (by assumption) ?_
          refine done_held (by kernel_rfl) ?_ _
          have HQ7 : Hid (One w #[.int .i64 c.W, .int .i64 c.H, .int .i64 c.height, .slice (some p) n1 cap1, .slice a2 n2 cap2, .slice a3 n3 cap3, vs, .int .i64 c.unit, .int .i64 c.accel, .int .i64 c.speed, .int .i64 c.turn, .int .i64 c.hoist, .int .i64 c.queue, .int .i64 c.resend, .int .i64 c.budget, .bool c.back] w7) := HQ.out.go D7
          have HG7 : Hid (∀ b ∈ c.blocked.take (k + 1), good1 c b) := HNx.out (HG1.out rfl g1 g2)
          go_wp2
          go_roundw
          case rel => exact ⟨k + 1, by omega, by go_num, HQ7, HG7⟩
          case measure => simp [intOf]; omega
      · obtain rfl : n1 = k := by omega
        have HA1 : Hid (∀ b ∈ c.blocked, good1 c b) := by
          have := HG.out
          rw [← H1.out, List.take_length] at this
          exact this
        clear HG hk hlt
        go_wp2
        clear k3 k4
        go_loopw [4] (fun i wq => ∃ k : Nat, k ≤ n2 ∧ i = .int .i64 k ∧ Hid (One w #[.int .i64 c.W, .int .i64 c.H, .int .i64 c.height, .slice a1 n1 cap1, .slice a2 n2 cap2, .slice a3 n3 cap3, vs, .int .i64 c.unit, .int .i64 c.accel, .int .i64 c.speed, .int .i64 c.turn, .int .i64 c.hoist, .int .i64 c.queue, .int .i64 c.resend, .int .i64 c.budget, .bool c.back] wq) ∧ Hid (∀ b ∈ c.ports.take k, good2 c b)) (fun i _ => n2 - (intOf i).toNat)
        case atStart => exact ⟨0, Nat.zero_le _, rfl, HQ, fun b hb => by simp at hb⟩
        case round =>
          clear HQ
          obtain ⟨k, hk, rfl, HQ, HG⟩ := hrel
          have k4 : wr.cell? ⟨w.heap.size, 4, none⟩ = some (.slice a2 n2 cap2) := cell_of HQ.out.a 4
          by_cases hlt : k < n2
          · have hlt' : k < c.ports.length := by rw [H2.out]; exact hlt
            have B := HQ.out.below
            have eA := HQ.out.a
            have HBad : Hid (¬ good2 c (c.ports[k]'hlt') → R = false) := fun h => HR.out ▸ may_p (List.getElem_mem hlt') h
            have HNx : Hid (good2 c (c.ports[k]'hlt') → ∀ b ∈ c.ports.take (k + 1), good2 c b) := fun h => all_next hlt' HG.out h
            obtain ⟨p, cs, cap', hv, hpF, hcs, hrd⟩ := (hFp.out wr B).item hlt'
            generalize c.ports[k]'hlt' = qr at *
            obtain ⟨x, y⟩ := qr
            obtain rfl := hcs
            rw [H2.out] at hv
            obtain ⟨rfl, rfl⟩ : a2 = some p ∧ cap2 = cap' := by injection hv with h1 h2 h3; exact ⟨h1, h3⟩
            clear hv
            have c1 := cI.out x y
            have c2 := cP.out x y
            have c3 := cH.out x y
            have c4 := cE.out x y
            obtain ⟨ib, hib⟩ : ∃ ib, decide (In c.W c.H (x, y)) = ib := ⟨_, rfl⟩
            obtain ⟨m1, hm1⟩ : ∃ m, c.ports.count (x, y) = m := ⟨_, rfl⟩
            obtain ⟨hb, hhb⟩ : ∃ hb, decide ((x, y) ∈ homes c) = hb := ⟨_, rfl⟩
            obtain ⟨eb, heb⟩ : ∃ eb, decide (besideR c (x, y)) = eb := ⟨_, rfl⟩
            have HG1 : Hid (ib = true → m1 ≤ 1 → hb = false → eb = true → good2 c (x, y)) := fun q1 q2 q3 q4 => ⟨of_decide_eq_true (hib.trans q1), by rw [hm1]; exact q2, of_decide_eq_false (hhb.trans q3), of_decide_eq_true (heb.trans q4)⟩
            have HG2 : Hid (good2 c (x, y) → ib = true ∧ m1 ≤ 1 ∧ hb = false ∧ eb = true) := fun q => ⟨by rw [← hib]; exact decide_eq_true q.1, by rw [← hm1]; exact q.2.1, by rw [← hhb]; exact decide_eq_false q.2.2.1, by rw [← heb]; exact decide_eq_true q.2.2.2⟩
            rw [hib] at c1
            rw [hm1] at c2
            rw [hhb] at c3
            rw [heb] at c4
            clear hib hm1 hhb heb
            go_wp2
            obtain ⟨IH, hIH⟩ : ∃ I : World → Prop, I = Below wr.heap.size wr := ⟨_, rfl⟩
            have kI : ∀ u, IH u → Below wr.heap.size wr u := fun u hu => by rw [hIH] at hu; exact hu
            have hS : IH wr.drew := by rw [hIH]; exact (Below.refl _ _).drew
            have D0 : Below wr.heap.size wr wr.drew := (Below.refl _ _).drew
            have HCF : Hid (∀ u, IH u → ∀ j z, #[.int .i64 c.W, .int .i64 c.H, .int .i64 c.height, .slice a1 n1 cap1, .slice (some p) n2 cap2, .slice a3 n3 cap3, vs, .int .i64 c.unit, .int .i64 c.accel, .int .i64 c.speed, .int .i64 c.turn, .int .i64 c.hoist, .int .i64 c.queue, .int .i64 c.resend, .int .i64 c.budget, .bool c.back][j]? = some z → u.cell? ((⟨w.heap.size, 0, none⟩ : Addr).add j) = some z) := fun u hu => row_below eA (kI u hu)
            have z4 : ∀ u, IH u → u.cell? ⟨w.heap.size, 4, none⟩ = some (.slice (some p) n2 cap2) := fun u hu => cell_below k4 (kI u hu)
            have HX : Hid (∀ u, IH u → ∀ j z, #[Value.int .i64 x, .int .i64 y][j]? = some z → u.cell? ((p.add (k * 2)).add j) = some z) := fun u hu j z hj => cell_below (hrd j z hj) (kI u hu)
            clear hrd
            refine start_held (S := IH) 38 rfl (by kernel_rfl) (hS) ?_
            simp only [Array.replicate_succ, Array.replicate_zero, List.push_toArray, List.nil_append, List.cons_append]
            refine tkf 0 (by assumption) rfl (v := .agg #[.int .i64 c.W, .int .i64 c.H, .int .i64 c.height, .slice a1 n1 cap1, .slice (some p) n2 cap2, .slice a3 n3 cap3, vs, .int .i64 c.unit, .int .i64 c.accel, .int .i64 c.speed, .int .i64 c.turn, .int .i64 c.hoist, .int .i64 c.queue, .int .i64 c.resend, .int .i64 c.budget, .bool c.back]) (fun u hu => by exact run_load_op 26 _ rfl ⟨w.heap.size, 0, none⟩ _ rfl (HCF.out u hu) (aggConf u) info_conf) ?_
            refine tkq 1 (by assumption) ?_
            refine tkf 2 (by assumption) rfl (fun u hu => by have zz0 := z4 u hu; go_simp; try rfl) ?_
            refine tkq 3 (by assumption) ?_
            refine tkq 4 (by assumption) ?_
            refine tkf 5 (by assumption) rfl (v := .agg #[.int .i64 x, .int .i64 y]) (fun u hu => by exact run_load_op 40 _ rfl (p.add (k * 2)) _ rfl (HX.out u hu) (aggCell u) infoCell2) ?_
            refine wpAnyH_ready (rs := [6]) (by kernel_rfl) (by simp) (AllReadyH.cons ((nth_eq _ 6).trans rfl) ?_ AllReadyH.nil)
            intro K' hK
            refine call_in hK (by kernel_rfl) 18 #[.agg #[.int .i64 c.W, .int .i64 c.H, .int .i64 c.height, .slice a1 n1 cap1, .slice (some p) n2 cap2, .slice a3 n3 cap3, vs, .int .i64 c.unit, .int .i64 c.accel, .int .i64 c.speed, .int .i64 c.turn, .int .i64 c.hoist, .int .i64 c.queue, .int .i64 c.resend, .int .i64 c.budget, .bool c.back], .agg #[.int .i64 x, .int .i64 y]] (by go_simp) _ (c1 _) ?_
            rintro v w5 ⟨rfl, b5⟩
            have D5 := bcat D0 b5 (Nat.le_refl _)
            have hS5 : IH w5 := by rw [hIH]; exact D5
            refine ⟨hS5, ?_⟩
            simp only [Act.put, List.setIfInBounds_toArray, List.set_cons_zero, List.set_cons_succ]
            cases ib
            · have HT : Hid (R = false) := HBad.out (fun q => by have := (HG2.out q).1; cases this)
              refine tkq 7 (by assumption) ?_
              refine tkq 8 (by assumption) ?_
              refine skq 9 (by assumption) ?_
              refine skq 10 (by assumption) ?_
              refine skq 11 (by assumption) ?_
              refine skq 12 (by assumption) ?_
              refine skq 13 (by assumption) ?_
              refine skq 14 (by assumption) ?_
              refine skq 15 (by assumption) ?_
              refine skq 16 (by assumption) ?_
              refine skq 17 (by assumption) ?_
              refine tkq 18 (by assumption) ?_
              refine tkq 19 (by assumption) ?_
              refine skq 20 (by assumption) ?_
              refine skq 21 (by assumption) ?_
              refine skq 22 (by assumption) ?_
              refine skq 23 (by assumption) ?_
              refine skq 24 (by assumption) ?_
              refine skq 25 (by assumption) ?_
              refine skq 26 (by assumption) ?_
              refine tkq 27 (by assumption) ?_
              refine tkq 28 (by assumption) ?_
              refine skq 29 (by assumption) ?_
              refine skq 30 (by assumption) ?_
              refine skq 31 (by assumption) ?_
              refine skq 32 (by assumption) ?_
              refine skq 33 (by assumption) ?_
              refine skq 34 (by assumption) ?_
              refine skq 35 (by assumption) ?_
              refine skq 36 (by assumption) ?_
              refine tkq 37 (by assumption) ?_
              refine done_held (by kernel_rfl) ?_ _
              go_wp2
              go_ret
              exact ⟨_, rfl, congrArg Value.bool HT.out.symm, bcat B D5 (Nat.le_refl _)⟩
            · skip
              refine tkq 7 (by assumption) ?_
              refine tkq 8 (by assumption) ?_
              refine tkq 9 (by assumption) ?_
              refine tkf 10 (by assumption) rfl (fun u hu => by have zz0 := z4 u hu; go_simp; try rfl) ?_
              refine tkq 11 (by assumption) ?_
              refine tkf 12 (by assumption) rfl (fun u hu => by have zz0 := z4 u hu; go_simp; try rfl) ?_
              refine tkq 13 (by assumption) ?_
              refine tkq 14 (by assumption) ?_
              refine tkf 15 (by assumption) rfl (v := .agg #[.int .i64 x, .int .i64 y]) (fun u hu => by exact run_load_op 40 _ rfl (p.add (k * 2)) _ rfl (HX.out u hu) (aggCell u) infoCell2) ?_
              refine wpAnyH_ready (rs := [16]) (by kernel_rfl) (by simp) (AllReadyH.cons ((nth_eq _ 16).trans rfl) ?_ AllReadyH.nil)
              intro K' hK
              refine call_in hK (by kernel_rfl) 19 #[.slice (some p) n2 cap2, .agg #[.int .i64 x, .int .i64 y]] (by go_simp) _ (c2 _ (bcat B D5 (Nat.le_refl _))) ?_
              rintro v w6 ⟨rfl, b6⟩
              have D6 := bcat D5 b6 (Nat.le_refl _)
              have hS6 : IH w6 := by rw [hIH]; exact D6
              refine ⟨hS6, ?_⟩
              simp only [Act.put, List.setIfInBounds_toArray, List.set_cons_zero, List.set_cons_succ]
              by_cases g1 : m1 ≤ 1
              rotate_left
              · have HT : Hid (R = false) := HBad.out (fun q => g1 (HG2.out q).2.1)
                have g1i : (1 : Int) < (m1 : Int) := by omega
                refine tkf 17 (by assumption) rfl (v := .bool true) (fun u hu => by go_simp; try simp [g1i]; try omega) ?_
                refine tkq 18 (by assumption) ?_
                refine tkq 19 (by assumption) ?_
                refine skq 20 (by assumption) ?_
                refine skq 21 (by assumption) ?_
                refine skq 22 (by assumption) ?_
                refine skq 23 (by assumption) ?_
                refine skq 24 (by assumption) ?_
                refine skq 25 (by assumption) ?_
                refine skq 26 (by assumption) ?_
                refine tkq 27 (by assumption) ?_
                refine tkq 28 (by assumption) ?_
                refine skq 29 (by assumption) ?_
                refine skq 30 (by assumption) ?_
                refine skq 31 (by assumption) ?_
                refine skq 32 (by assumption) ?_
                refine skq 33 (by assumption) ?_
                refine skq 34 (by assumption) ?_
                refine skq 35 (by assumption) ?_
                refine skq 36 (by assumption) ?_
                refine tkq 37 (by assumption) ?_
                refine done_held (by kernel_rfl) ?_ _
                go_wp2
                go_ret
                exact ⟨_, rfl, congrArg Value.bool HT.out.symm, bcat B D6 (Nat.le_refl _)⟩
              have g1i : ¬ (1 : Int) < (m1 : Int) := by omega
              refine tkf 17 (by assumption) rfl (v := .bool false) (fun u hu => by go_simp; try simp [g1i]; try omega) ?_
              refine tkq 18 (by assumption) ?_
              refine tkq 19 (by assumption) ?_
              refine tkf 20 (by assumption) rfl (v := .agg #[.int .i64 c.W, .int .i64 c.H, .int .i64 c.height, .slice a1 n1 cap1, .slice (some p) n2 cap2, .slice a3 n3 cap3, vs, .int .i64 c.unit, .int .i64 c.accel, .int .i64 c.speed, .int .i64 c.turn, .int .i64 c.hoist, .int .i64 c.queue, .int .i64 c.resend, .int .i64 c.budget, .bool c.back]) (fun u hu => by exact run_load_op 26 _ rfl ⟨w.heap.size, 0, none⟩ _ rfl (HCF.out u hu) (aggConf u) info_conf) ?_
              refine tkq 21 (by assumption) ?_
              refine tkf 22 (by assumption) rfl (fun u hu => by have zz0 := z4 u hu; go_simp; try rfl) ?_
              refine tkq 23 (by assumption) ?_
              refine tkq 24 (by assumption) ?_
              refine tkf 25 (by assumption) rfl (v := .agg #[.int .i64 x, .int .i64 y]) (fun u hu => by exact run_load_op 40 _ rfl (p.add (k * 2)) _ rfl (HX.out u hu) (aggCell u) infoCell2) ?_
              refine wpAnyH_ready (rs := [26]) (by kernel_rfl) (by simp) (AllReadyH.cons ((nth_eq _ 26).trans rfl) ?_ AllReadyH.nil)
              intro K' hK
              refine call_in hK (by kernel_rfl) 20 #[.agg #[.int .i64 c.W, .int .i64 c.H, .int .i64 c.height, .slice a1 n1 cap1, .slice (some p) n2 cap2, .slice a3 n3 cap3, vs, .int .i64 c.unit, .int .i64 c.accel, .int .i64 c.speed, .int .i64 c.turn, .int .i64 c.hoist, .int .i64 c.queue, .int .i64 c.resend, .int .i64 c.budget, .bool c.back], .agg #[.int .i64 x, .int .i64 y]] (by go_simp) _ (c3 _ (bcat B D6 (Nat.le_refl _))) ?_
              rintro v w7 ⟨rfl, b7⟩
              have D7 := bcat D6 b7 (Nat.le_refl _)
              have hS7 : IH w7 := by rw [hIH]; exact D7
              refine ⟨hS7, ?_⟩
              simp only [Act.put, List.setIfInBounds_toArray, List.set_cons_zero, List.set_cons_succ]
              cases hb
              rotate_left
              · have HT : Hid (R = false) := HBad.out (fun q => by have := (HG2.out q).2.2.1; cases this)
                refine tkq 27 (by assumption) ?_
                refine tkq 28 (by assumption) ?_
                refine skq 29 (by assumption) ?_
                refine skq 30 (by assumption) ?_
                refine skq 31 (by assumption) ?_
                refine skq 32 (by assumption) ?_
                refine skq 33 (by assumption) ?_
                refine skq 34 (by assumption) ?_
                refine skq 35 (by assumption) ?_
                refine skq 36 (by assumption) ?_
                refine tkq 37 (by assumption) ?_
                refine done_held (by kernel_rfl) ?_ _
                go_wp2
                go_ret
                exact ⟨_, rfl, congrArg Value.bool HT.out.symm, bcat B D7 (Nat.le_refl _)⟩
              refine tkq 27 (by assumption) ?_
              refine tkq 28 (by assumption) ?_
              refine tkf 29 (by assumption) rfl (v := .agg #[.int .i64 c.W, .int .i64 c.H, .int .i64 c.height, .slice a1 n1 cap1, .slice (some p) n2 cap2, .slice a3 n3 cap3, vs, .int .i64 c.unit, .int .i64 c.accel, .int .i64 c.speed, .int .i64 c.turn, .int .i64 c.hoist, .int .i64 c.queue, .int .i64 c.resend, .int .i64 c.budget, .bool c.back]) (fun u hu => by exact run_load_op 26 _ rfl ⟨w.heap.size, 0, none⟩ _ rfl (HCF.out u hu) (aggConf u) info_conf) ?_
              refine tkq 30 (by assumption) ?_
              refine tkf 31 (by assumption) rfl (fun u hu => by have zz0 := z4 u hu; go_simp; try rfl) ?_
              refine tkq 32 (by assumption) ?_
              refine tkq 33 (by assumption) ?_
              refine tkf 34 (by assumption) rfl (v := .agg #[.int .i64 x, .int .i64 y]) (fun u hu => by exact run_load_op 40 _ rfl (p.add (k * 2)) _ rfl (HX.out u hu) (aggCell u) infoCell2) ?_
              refine wpAnyH_ready (rs := [35]) (by kernel_rfl) (by simp) (AllReadyH.cons ((nth_eq _ 35).trans rfl) ?_ AllReadyH.nil)
              intro K' hK
              refine call_in hK (by kernel_rfl) 21 #[.agg #[.int .i64 c.W, .int .i64 c.H, .int .i64 c.height, .slice a1 n1 cap1, .slice (some p) n2 cap2, .slice a3 n3 cap3, vs, .int .i64 c.unit, .int .i64 c.accel, .int .i64 c.speed, .int .i64 c.turn, .int .i64 c.hoist, .int .i64 c.queue, .int .i64 c.resend, .int .i64 c.budget, .bool c.back], .agg #[.int .i64 x, .int .i64 y]] (by go_simp) _ (c4 _ (bcat B D7 (Nat.le_refl _))) ?_
              rintro v w8 ⟨rfl, b8⟩
              have D8 := bcat D7 b8 (Nat.le_refl _)
              have hS8 : IH w8 := by rw [hIH]; exact D8
              refine ⟨hS8, ?_⟩
              simp only [Act.put, List.setIfInBounds_toArray, List.set_cons_zero, List.set_cons_succ]
              cases eb
              · have HT : Hid (R = false) := HBad.out (fun q => by have := (HG2.out q).2.2.2; cases this)
                refine tkq 36 (by assumption) ?_
                refine tkq 37 (by assumption) ?_
                refine done_held (by kernel_rfl) ?_ _
                go_wp2
                go_ret
                exact ⟨_, rfl, congrArg Value.bool HT.out.symm, bcat B D8 (Nat.le_refl _)⟩
              · skip
                refine tkq 36 (by assumption) ?_
                refine tkq 37 (by assumption) ?_
                refine done_held (by kernel_rfl) ?_ _
                have HQ7 : Hid (One w #[.int .i64 c.W, .int .i64 c.H, .int .i64 c.height, .slice a1 n1 cap1, .slice (some p) n2 cap2, .slice a3 n3 cap3, vs, .int .i64 c.unit, .int .i64 c.accel, .int .i64 c.speed, .int .i64 c.turn, .int .i64 c.hoist, .int .i64 c.queue, .int .i64 c.resend, .int .i64 c.budget, .bool c.back] w8) := HQ.out.go D8
                have HG7 : Hid (∀ b ∈ c.ports.take (k + 1), good2 c b) := HNx.out (HG1.out rfl g1 rfl rfl)
                go_wp2
                go_roundw
                case rel => exact ⟨k + 1, by omega, by go_num, HQ7, HG7⟩
                case measure => simp [intOf]; omega
          · obtain rfl : n2 = k := by omega
            have HA2 : Hid (∀ b ∈ c.ports, good2 c b) := by
              have := HG.out
              rw [← H2.out, List.take_length] at this
              exact this
            clear HG hk hlt
            have HN0 : Hid (Nd w c #[.int .i64 c.W, .int .i64 c.H, .int .i64 c.height, .slice a1 n1 cap1, .slice a2 n2 cap2, .slice a3 n3 cap3, vs, .int .i64 c.unit, .int .i64 c.accel, .int .i64 c.speed, .int .i64 c.turn, .int .i64 c.hoist, .int .i64 c.queue, .int .i64 c.resend, .int .i64 c.budget, .bool c.back] (.slice none 0 0) 0 wr) := ⟨HQ.out, World.ownsRow_nil _ _ _ _, fun r hr => by simp at hr⟩
            go_wp2
            clear k4
            go_loopw [5, 6] (fun v i wq => ∃ k : Nat, k ≤ n3 ∧ i = .int .i64 k ∧ Hid (Nd w c #[.int .i64 c.W, .int .i64 c.H, .int .i64 c.height, .slice a1 n1 cap1, .slice a2 n2 cap2, .slice a3 n3 cap3, vs, .int .i64 c.unit, .int .i64 c.accel, .int .i64 c.speed, .int .i64 c.turn, .int .i64 c.hoist, .int .i64 c.queue, .int .i64 c.resend, .int .i64 c.budget, .bool c.back] v k wq)) (fun _ i _ => n3 - (intOf i).toNat)
            case atStart => exact ⟨0, Nat.zero_le _, rfl, HN0⟩
            case round =>
              clear HQ HN0
              obtain ⟨k, hk, rfl, HN⟩ := hrel
              have k5 : wr.cell? ⟨w.heap.size, 5, none⟩ = some (.slice a3 n3 cap3) := cell_of HN.out.box.a 5
              by_cases hlt : k < n3
              · have hlt' : k < c.robots.length := by rw [H3.out]; exact hlt
                have B := HN.out.box.below
                have eA := HN.out.box.a
                have HBad : Hid (¬ fitsR c (c.robots[k]'hlt') → R = false) := fun h => HR.out ▸ may_r (List.getElem_mem hlt') h
                have HNx : Hid (fitsR c (c.robots[k]'hlt') → ∀ {v' : Value} {W W' : World}, Nd w c #[.int .i64 c.W, .int .i64 c.H, .int .i64 c.height, .slice a1 n1 cap1, .slice a2 n2 cap2, .slice a3 n3 cap3, vs, .int .i64 c.unit, .int .i64 c.accel, .int .i64 c.speed, .int .i64 c.turn, .int .i64 c.hoist, .int .i64 c.queue, .int .i64 c.resend, .int .i64 c.budget, .bool c.back] u5 k W → W'.ownsRow (w.heap.size + 1) 40 2 v' (homeT c k ++ cellsOf (c.robots[k]'hlt')).length (rowL cellL (homeT c k ++ cellsOf (c.robots[k]'hlt'))) → W.grownBy W' u5.ownBlock → Nd w c #[.int .i64 c.W, .int .i64 c.H, .int .i64 c.height, .slice a1 n1 cap1, .slice a2 n2 cap2, .slice a3 n3 cap3, vs, .int .i64 c.unit, .int .i64 c.accel, .int .i64 c.speed, .int .i64 c.turn, .int .i64 c.hoist, .int .i64 c.queue, .int .i64 c.resend, .int .i64 c.budget, .bool c.back] v' (k + 1) W') := fun h _ _ _ q1 q2 q3 => q1.next hlt' h q2 q3
                obtain ⟨p, cs, cap', hv, hpF, hcs, hrd⟩ := (hFr.out wr B).item hlt'
                generalize c.robots[k]'hlt' = qr at *
                obtain ⟨⟨x, y⟩, d⟩ := qr
                obtain rfl := hcs
                rw [H3.out] at hv
                obtain ⟨rfl, rfl⟩ : a3 = some p ∧ cap3 = cap' := by injection hv with h1 h2 h3; exact ⟨h1, h3⟩
                clear hv
                have c1 := cF.out x y d
                obtain ⟨fb, hfb⟩ : ∃ fb, decide (fitsR c ((x, y), d)) = fb := ⟨_, rfl⟩
                have HFB : Hid (decide (fitsR c ((x, y), d)) = fb) := hfb
                rw [hfb] at c1
                clear hfb
                obtain ⟨x2, hx2⟩ : ∃ x2, (second ((x, y), d)).1 = x2 := ⟨_, rfl⟩
                obtain ⟨y2, hy2⟩ : ∃ y2, (second ((x, y), d)).2 = y2 := ⟨_, rfl⟩
                have HE : Hid (cellsOf ((x, y), d) = [(x, y), (x2, y2)]) := by show cellsOf ((x, y), d) = _; unfold cellsOf; rw [← hx2, ← hy2]
                have cC := fun u => cellsR_any x y d u
                rw [hx2, hy2] at cC
                clear hx2 hy2
                go_wp2
                obtain ⟨IH, hIH⟩ : ∃ I : World → Prop, I = Below wr.heap.size wr := ⟨_, rfl⟩
                have kI : ∀ u, IH u → Below wr.heap.size wr u := fun u hu => by rw [hIH] at hu; exact hu
                have hS : IH wr.drew := by rw [hIH]; exact (Below.refl _ _).drew
                have D0 : Below wr.heap.size wr wr.drew := (Below.refl _ _).drew
                have HCF : Hid (∀ u, IH u → ∀ j z, #[.int .i64 c.W, .int .i64 c.H, .int .i64 c.height, .slice a1 n1 cap1, .slice a2 n2 cap2, .slice (some p) n3 cap3, vs, .int .i64 c.unit, .int .i64 c.accel, .int .i64 c.speed, .int .i64 c.turn, .int .i64 c.hoist, .int .i64 c.queue, .int .i64 c.resend, .int .i64 c.budget, .bool c.back][j]? = some z → u.cell? ((⟨w.heap.size, 0, none⟩ : Addr).add j) = some z) := fun u hu => row_below eA (kI u hu)
                have z5 : ∀ u, IH u → u.cell? ⟨w.heap.size, 5, none⟩ = some (.slice (some p) n3 cap3) := fun u hu => cell_below k5 (kI u hu)
                have HX : Hid (∀ u, IH u → ∀ j z, #[Value.int .i64 x, .int .i64 y, .bool d][j]? = some z → u.cell? ((p.add (k * 3)).add j) = some z) := fun u hu j z hj => cell_below (hrd j z hj) (kI u hu)
                clear hrd
                refine start_held (S := IH) 8 rfl (by kernel_rfl) (hS) ?_
                simp only [Array.replicate_succ, Array.replicate_zero, List.push_toArray, List.nil_append, List.cons_append]
                refine tkf 0 (by assumption) rfl (v := .agg #[.int .i64 c.W, .int .i64 c.H, .int .i64 c.height, .slice a1 n1 cap1, .slice a2 n2 cap2, .slice (some p) n3 cap3, vs, .int .i64 c.unit, .int .i64 c.accel, .int .i64 c.speed, .int .i64 c.turn, .int .i64 c.hoist, .int .i64 c.queue, .int .i64 c.resend, .int .i64 c.budget, .bool c.back]) (fun u hu => by exact run_load_op 26 _ rfl ⟨w.heap.size, 0, none⟩ _ rfl (HCF.out u hu) (aggConf u) info_conf) ?_
                refine tkq 1 (by assumption) ?_
                refine tkf 2 (by assumption) rfl (fun u hu => by have zz0 := z5 u hu; go_simp; try rfl) ?_
                refine tkq 3 (by assumption) ?_
                refine tkq 4 (by assumption) ?_
                refine tkf 5 (by assumption) rfl (v := .agg #[.int .i64 x, .int .i64 y, .bool d]) (fun u hu => by exact run_load_op 42 _ rfl (p.add (k * 3)) _ rfl (HX.out u hu) (aggPose u) infoPose2) ?_
                refine wpAnyH_ready (rs := [6]) (by kernel_rfl) (by simp) (AllReadyH.cons ((nth_eq _ 6).trans rfl) ?_ AllReadyH.nil)
                intro K' hK
                refine call_in hK (by kernel_rfl) 22 #[.agg #[.int .i64 c.W, .int .i64 c.H, .int .i64 c.height, .slice a1 n1 cap1, .slice a2 n2 cap2, .slice (some p) n3 cap3, vs, .int .i64 c.unit, .int .i64 c.accel, .int .i64 c.speed, .int .i64 c.turn, .int .i64 c.hoist, .int .i64 c.queue, .int .i64 c.resend, .int .i64 c.budget, .bool c.back], .agg #[.int .i64 x, .int .i64 y, .bool d]] (by go_simp) _ (c1 _ (bcat B D0 (Nat.le_refl _))) ?_
                rintro v w5 ⟨rfl, b5⟩
                have D5 := bcat D0 b5 (Nat.le_refl _)
                have hS5 : IH w5 := by rw [hIH]; exact D5
                refine ⟨hS5, ?_⟩
                simp only [Act.put, List.setIfInBounds_toArray, List.set_cons_zero, List.set_cons_succ]
                cases fb
                · have HT : Hid (R = false) := HBad.out (of_decide_eq_false HFB.out)
                  refine tkq 7 (by assumption) ?_
                  refine done_held (by kernel_rfl) ?_ _
                  go_wp2
                  go_ret
                  exact ⟨_, rfl, congrArg Value.bool HT.out.symm, bcat B D5 (Nat.le_refl _)⟩
                · skip
                  refine tkq 7 (by assumption) ?_
                  refine done_held (by kernel_rfl) ?_ _
                  have HN5 : Hid (Nd w c #[.int .i64 c.W, .int .i64 c.H, .int .i64 c.height, .slice a1 n1 cap1, .slice a2 n2 cap2, .slice (some p) n3 cap3, vs, .int .i64 c.unit, .int .i64 c.accel, .int .i64 c.speed, .int .i64 c.turn, .int .i64 c.hoist, .int .i64 c.queue, .int .i64 c.resend, .int .i64 c.budget, .bool c.back] u5 k w5) := HN.out.go D5
                  have y5 := z5 _ hS5
                  have y6 := HX.out _ hS5
                  have hown5 := HN5.out.own
                  have hlen5 : (homeT c k).length ≤ 16 := by rw [homeT_len]; omega
                  clear b5 k5
                  go_wp2_with (first
                    | (refine wpList_load_at rfl 42 (.tmp 130) rfl (p.add (k * 3)) rfl #[.int .i64 x, .int .i64 y, .bool d] y6 (aggPose _) infoPose2 ?_)
                    | (go_at_call 23; refine (cC _).mono ?_; rintro e w6 ⟨r6, rfl, ⟨g6, rfl, hg6, hG6⟩, b6⟩; have HN6 : Hid (Nd w c #[.int .i64 c.W, .int .i64 c.H, .int .i64 c.height, .slice a1 n1 cap1, .slice a2 n2 cap2, .slice (some p) n3 cap3, vs, .int .i64 c.unit, .int .i64 c.accel, .int .i64 c.speed, .int .i64 c.turn, .int .i64 c.hoist, .int .i64 c.queue, .int .i64 c.resend, .int .i64 c.budget, .bool c.back] u5 k w6) := HN5.out.go b6; have own6 := HN6.out.own)
                    | (at_builtin; refine wpList_app kindCell rfl _ _ rfl (w.heap.size + 1) u5 (homeT c k) rfl own6 (fun b => b = g6) _ [(x, y), (x2, y2)] rfl (list_two hG6) (by simp; omega) (by unfold maxLen; simp; omega) (Nat.le_trans (lt_of_heap HN6.out.box.a) (Nat.le_refl _)) ?_; intro v9 w9 own9 g9 at9; rw [← HE.out] at own9; have HN9 : Hid (Nd w c #[.int .i64 c.W, .int .i64 c.H, .int .i64 c.height, .slice a1 n1 cap1, .slice a2 n2 cap2, .slice (some p) n3 cap3, vs, .int .i64 c.unit, .int .i64 c.accel, .int .i64 c.speed, .int .i64 c.turn, .int .i64 c.hoist, .int .i64 c.queue, .int .i64 c.resend, .int .i64 c.budget, .bool c.back] v9 (k + 1) w9) := HNx.out (of_decide_eq_true HFB.out) HN6.out own9 g9))
                  go_roundw
                  case rel => exact ⟨k + 1, by omega, by go_num, HN9⟩
                  case measure => simp [intOf]; omega
              · obtain rfl : n3 = k := by omega
                have HA3 : Hid (∀ r ∈ c.robots, fitsR c r) := by
                  have := HN.out.good
                  rw [← H3.out, List.take_length] at this
                  exact this
                have HEq : Hid (homeT c n3 = homes c) := by
                  show homeT c n3 = homes c
                  unfold homeT homes
                  rw [← H3.out, List.take_length]
                have hown := HN.out.own
                have HQ : Hid (One w #[.int .i64 c.W, .int .i64 c.H, .int .i64 c.height, .slice a1 n1 cap1, .slice a2 n2 cap2, .slice a3 n3 cap3, vs, .int .i64 c.unit, .int .i64 c.accel, .int .i64 c.speed, .int .i64 c.turn, .int .i64 c.hoist, .int .i64 c.queue, .int .i64 c.resend, .int .i64 c.budget, .bool c.back] wr) := HN.out.box
                obtain ⟨a5, cap5, hv5, h05, hc5, _⟩ := own_form hown
                subst hv5
                have hlen : (homeT c n3).length ≤ 16 := by rw [homeT_len]; omega
                have HL : Hid (ListAt 2 cellEl (Since (w.heap.size + 1) wr) (homeT c n3) (.slice a5 (homeT c n3).length cap5) wr) := list_of_own kindCell.len hown
                rw [HEq.out] at HL hlen
                rw [HEq.out]
                clear HN hown HEq hk hlt h05 hc5
                generalize hh : homes c = hs at *
                have HH : Hid (homes c = hs) := hh
                clear hh
                obtain ⟨N, hN⟩ : ∃ N, hs.length = N := ⟨_, rfl⟩
                have HNl : Hid (hs.length = N) := hN
                rw [hN] at HL hlen
                rw [hN]
                clear hN
                obtain ⟨IW, hIW⟩ : ∃ I : World → Prop, I = Below wr.heap.size wr := ⟨_, rfl⟩
                have kW : ∀ u, IW u → Below wr.heap.size wr u := fun u hu => by rw [hIW] at hu; exact hu
                have HW0 : Hid (IW wr) := by show IW wr; rw [hIW]; exact Below.refl _ _
                have HB : Hid (Below w.heap.size w wr) := HQ.out.below
                have eW := HQ.out.a
                have HCW : Hid (∀ u, IW u → u.heap[w.heap.size]? = some (.cells #[.int .i64 c.W, .int .i64 c.H, .int .i64 c.height, .slice a1 n1 cap1, .slice a2 n2 cap2, .slice a3 n3 cap3, vs, .int .i64 c.unit, .int .i64 c.accel, .int .i64 c.speed, .int .i64 c.turn, .int .i64 c.hoist, .int .i64 c.queue, .int .i64 c.resend, .int .i64 c.budget, .bool c.back] 26 (0, 0))) := fun u hu => ((kW u hu).block _ (lt_of_heap eW)).trans eW
                have HLw : Hid (∀ u, IW u → ListAt 2 cellEl (Since (w.heap.size + 1) wr) hs (.slice a5 N cap5) u) := fun u hu => HL.out.go heldCell (fun g hg => hg.2) (kW u hu)
                have HS2 : Hid (∀ u, IW u → ∀ g, Since (w.heap.size + 1) wr g → g < u.heap.size) := fun u hu g hg => Nat.lt_of_lt_of_le hg.2 (kW u hu).size
                clear HL eW
                go_wp2
                clear k5
                go_loopw [7] (fun i wq => ∃ k : Nat, k ≤ N ∧ i = .int .i64 k ∧ Hid (IW wq) ∧ Hid (∀ b ∈ hs.take k, hs.count b ≤ 1)) (fun i _ => N - (intOf i).toNat)
                case atStart => exact ⟨0, Nat.zero_le _, rfl, HW0, fun b hb => by simp at hb⟩
                case round =>
                  obtain ⟨k, hk, rfl, HI, HG⟩ := hrel
                  clear HW0
                  by_cases hlt : k < N
                  · have hlt' : k < hs.length := by rw [HNl.out]; exact hlt
                    have HBad : Hid (¬ hs.count (hs[k]'hlt') ≤ 1 → R = false) := fun h => HR.out ▸ may_h (c := c) (b := hs[k]'hlt') (by rw [HH.out]; exact h)
                    have HNx : Hid (hs.count (hs[k]'hlt') ≤ 1 → ∀ b ∈ hs.take (k + 1), hs.count b ≤ 1) := fun h => all_next hlt' HG.out h
                    obtain ⟨p, cs, cap', hv, hpF, hcs, hrd⟩ := (HLw.out wr HI.out).item hlt'
                    generalize hs[k]'hlt' = qr at *
                    obtain ⟨x, y⟩ := qr
                    obtain rfl := hcs
                    rw [HNl.out] at hv
                    obtain ⟨rfl, rfl⟩ : a5 = some p ∧ cap5 = cap' := by injection hv with h1 h2 h3; exact ⟨h1, h3⟩
                    clear hv
                    have cA := among_any _ hs _ x y wr (HLw.out wr HI.out) (HS2.out wr HI.out) (by rw [HNl.out]; omega)
                    obtain ⟨m1, hm1⟩ : ∃ m, hs.count (x, y) = m := ⟨_, rfl⟩
                    rw [hm1] at HBad HNx cA
                    clear hm1
                    have HBw : Hid (Below w.heap.size w wr) := bcat HB.out (kW _ HI.out) (Nat.le_refl _)
                    by_cases g1 : m1 ≤ 1
                    · have g1i : ¬ (1 : Int) < (m1 : Int) := by omega
                      have HG9 := HNx.out g1
                      have HGG : Hid (∀ b ∈ hs.take (k + 1), hs.count b ≤ 1) := HG9
                      clear HG9
                      go_wp2_with (first
                        | (refine wpList_load_at rfl 40 (.tmp 143) rfl (p.add (k * 2)) rfl #[.int .i64 x, .int .i64 y] hrd (aggCell _) infoCell2 ?_)
                        | (go_at_call 19; refine cA.mono ?_; rintro e w6 ⟨r6, rfl, rfl, b6⟩; have HI6 : Hid (IW w6) := by (have := kW _ HI.out; show IW w6; rw [hIW]; exact bcat this b6 (Nat.le_refl _))))
                      go_roundw
                      case rel => exact ⟨k + 1, by omega, by go_num, HI6, HGG⟩
                      case measure => simp [intOf]; omega
                    · have g1i : (1 : Int) < (m1 : Int) := by omega
                      have HT : Hid (R = false) := HBad.out g1
                      go_wp2_with (first
                        | (refine wpList_load_at rfl 40 (.tmp 143) rfl (p.add (k * 2)) rfl #[.int .i64 x, .int .i64 y] hrd (aggCell _) infoCell2 ?_)
                        | (go_at_call 19; refine cA.mono ?_; rintro e w6 ⟨r6, rfl, rfl, b6⟩))
                      go_ret
                      exact ⟨_, rfl, congrArg Value.bool HT.out.symm, bcat HBw.out b6 (Nat.le_refl _)⟩
                  · obtain rfl : N = k := by omega
                    have HT : Hid (R = decide (binsP c)) := by
                      show R = decide (binsP c)
                      rw [← HR.out]
                      refine may_all HLM.out (by rw [H2.out]; exact h8) (by rw [H3.out]; exact h9) HA1.out HA2.out HA3.out ?_
                      rw [HH.out]
                      have := HG.out
                      rw [← HNl.out, List.take_length] at this
                      exact this
                    have eB := HCW.out _ HI.out
                    have HBw := bcat HB.out (kW _ HI.out) (Nat.le_refl _)
                    have cZZ := cZ.out wr HBw (limited_sides HLM.out).2.2.2.2.2
                    rw [← HT.out] at cZZ
                    go_wp2_with (first
                      | (refine wpList_load_row rfl 26 (.tmp 1) rfl w.heap.size rfl 26 #[.int .i64 c.W, .int .i64 c.H, .int .i64 c.height, .slice a1 n1 cap1, .slice a2 n2 cap2, .slice a3 n3 cap3, vs, .int .i64 c.unit, .int .i64 c.accel, .int .i64 c.speed, .int .i64 c.turn, .int .i64 c.hoist, .int .i64 c.queue, .int .i64 c.resend, .int .i64 c.budget, .bool c.back] (0, 0) _ eB Tryz.underlying26 rfl info_conf ?_)
                      | (go_at_call 24; refine cZZ.mono ?_; rintro e w6 ⟨r6, rfl, rfl, b6⟩))
                    go_ret
                    exact ⟨_, rfl, rfl, bcat HBw b6 (Nat.le_refl _)⟩
end Go.Proofs.YtedhoghleelhfaaGreat.Grid
