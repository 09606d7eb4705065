/-
  The chapter's own May: the walk.
-/
import Derived.Test.YtabbdclpjghdbaaRgI
namespace Go.Proofs.Ytabbdclpjghdbaa.Grid
set_option linter.unusedVariables false
set_option linter.unusedSimpArgs false
open Go Go.RowKit Go.Shelf Go.Proofs
attribute [local go_sem] Oper.semAt_some

def good1 (c : Conf) (b : Cell) : Prop := In c.W c.H b ∧ c.blocked.count b ≤ 1 ∧ c.ports.count b = 0
def good2 (c : Conf) (b : Cell) : Prop := In c.W c.H b ∧ c.ports.count b ≤ 1 ∧ b ∉ homes c ∧ besideR c b
theorem all_next {α : Type} {l : List α} {G : α → Prop} {k : Nat} (hk : k < l.length) (h : ∀ b ∈ l.take k, G b) (hg : G (l[k]'hk)) : ∀ b ∈ l.take (k + 1), G b := by
  intro b hb
  rw [List.take_add_one, List.getElem?_eq_getElem hk] at hb
  rcases List.mem_append.1 hb with q | q
  · exact h b q
  · simp at q; rw [q]; exact hg
def homeT (c : Conf) (k : Nat) : List Cell := (c.robots.take k).flatMap cellsOf
theorem flat_len (l : List Pose) : (l.flatMap cellsOf).length = 2 * l.length := by
  induction l with
  | nil => rfl
  | cons x l ih => rw [List.flatMap_cons, List.length_append, ih, List.length_cons]; simp [cellsOf]; omega
theorem homeT_len (c : Conf) (k : Nat) : (homeT c k).length = 2 * min k c.robots.length := by
  unfold homeT
  rw [flat_len, List.length_take]
structure Nd (w : World) (c : Conf) (cs : Array Value) (v : Value) (k : Nat) (wr : World) : Prop where
  box : One w cs wr
  own : wr.ownsRow (w.heap.size + 1) 39 2 v (homeT c k).length (rowL cellL (homeT c k))
  good : ∀ r ∈ c.robots.take k, fitsR c r
theorem Nd.go {w : World} {c : Conf} {cs : Array Value} {v : Value} {k : Nat} {wr W' : World} (h : Nd w c cs v k wr) (hb : Below wr.heap.size wr W') : Nd w c cs v k W' := ⟨h.box.go hb, owns_go h.own hb, h.good⟩
theorem Nd.next {w : World} {c : Conf} {cs : Array Value} {v : Value} {k : Nat} {wr : World} (h : Nd w c cs v k wr) (hk : k < c.robots.length) (hs : fitsR c (c.robots[k]'hk)) {v' : Value} {W' : World}
    (ho : W'.ownsRow (w.heap.size + 1) 39 2 v' (homeT c k ++ cellsOf (c.robots[k]'hk)).length (rowL cellL (homeT c k ++ cellsOf (c.robots[k]'hk)))) (hg : wr.grownBy W' v.ownBlock) : Nd w c cs v' (k + 1) W' := by
  have e : homeT c (k + 1) = homeT c k ++ cellsOf (c.robots[k]'hk) := flat_take c.robots cellsOf k hk
  have hlt := h.own.lt
  exact ⟨⟨h.box.below.grown hg h.box.below.size (fun g q => by have := (hlt g q).1; omega), (hg.block _ (lt_of_heap h.box.a) (fun q => by have := (hlt _ q.symm).1; omega)).trans h.box.a⟩, by rw [e]; exact ho, all_next hk h.good hs⟩
set_option maxRecDepth 100000 in
set_option maxHeartbeats 8000000 in
theorem mayR_any (F : Nat → Prop) (c : Conf) (vb vp vr vs : Value) (w : World) (hA : ConfAt F c vb vp vr vs w) (hF : ∀ b, F b → b < w.heap.size) (h1 : c.blocked.length ≤ 9223372036854775807) (h2 : c.ports.length ≤ 9223372036854775807) (h3 : c.robots.length ≤ 9223372036854775807) (hms : c.stacks.length ≤ 3518437208880) (hbs : ∀ s ∈ c.stacks, s.2.length ≤ 17592186044416) :
    Calls Try.prog 9 #[.agg #[.int .i64 c.W, .int .i64 c.H, .int .i64 c.height, vb, vp, vr, vs, .int .i64 c.unit, .int .i64 c.accel, .int .i64 c.speed, .int .i64 c.turn, .int .i64 c.hoist, .int .i64 c.queue, .int .i64 c.resend, .int .i64 c.budget, .bool c.back]] w fun e w' => ∃ r, e = .returned r ∧ r = .bool (newP c).isSome ∧ Below w.heap.size w w' := by
  obtain ⟨a1, cap1, hv1, e1⟩ := hA.b.form
  obtain ⟨a2, cap2, hv2, e2⟩ := hA.p.form
  obtain ⟨a3, cap3, hv3, e3⟩ := hA.r.form
  subst hv1 hv2 hv3
  have L := fun (u : World) (b : Below w.heap.size w u) g (hg : F g) => Nat.lt_of_lt_of_le (hF g hg) b.size
  have cN := fun u => numbersR_any c (.slice a1 c.blocked.length cap1) (.slice a2 c.ports.length cap2) (.slice a3 c.robots.length cap3) vs u
  have cI := fun x y u => inR_any _ c (.slice a1 c.blocked.length cap1) (.slice a2 c.ports.length cap2) (.slice a3 c.robots.length cap3) vs x y u (cells_conf c _ _ _ _)
  have cB := fun x y u (b : Below w.heap.size w u) => among_any F c.blocked _ x y u (hA.b.go heldCell hF b) (L u b) h1
  have cP := fun x y u (b : Below w.heap.size w u) => among_any F c.ports _ x y u (hA.p.go heldCell hF b) (L u b) h2
  have cH := fun x y u (b : Below w.heap.size w u) => homeR_any F c _ _ _ _ x y u (hA.go hF b) (L u b) h3
  have cE := fun x y u (b : Below w.heap.size w u) => besideR_any F c _ _ _ _ x y u (hA.go hF b) (L u b) h1
  have cF := fun x y d u (b : Below w.heap.size w u) => fitsR_any F c _ _ _ _ x y d u (hA.go hF b) (L u b) h1
  have cZ := fun u (b : Below w.heap.size w u) (h8 : c.height ≤ 8) => binsR_any F c _ _ _ _ u (hA.go hF b) (L u b) h1 h2 h3 hms hbs h8
  have hFb : ∀ wr, Below w.heap.size w wr → ListAt 2 cellEl F c.blocked _ wr := fun wr b => hA.b.go heldCell hF b
  have hFp : ∀ wr, Below w.heap.size w wr → ListAt 2 cellEl F c.ports _ wr := fun wr b => hA.p.go heldCell hF b
  have hFr : ∀ wr, Below w.heap.size w wr → ListAt 3 poseEl F c.robots _ wr := fun wr b => hA.r.go heldPose hF b
  unfold confCells at cI
  obtain ⟨n1, hn1⟩ : ∃ n, c.blocked.length = n := ⟨_, rfl⟩
  obtain ⟨n2, hn2⟩ : ∃ n, c.ports.length = n := ⟨_, rfl⟩
  obtain ⟨n3, hn3⟩ : ∃ n, c.robots.length = n := ⟨_, rfl⟩
  have H1 : Hid (c.blocked.length = n1) := hn1
  have H2 : Hid (c.ports.length = n2) := hn2
  have H3 : Hid (c.robots.length = n3) := hn3
  generalize hR : (newP c).isSome = R
  have HR : Hid ((newP c).isSome = R) := hR
  have HL0 : Hid (limited c = false → R = false) := fun h => HR.out ▸ may_limited h
  have HL1 : Hid (¬ n2 ≤ 8 → R = false) := fun h => HR.out ▸ may_ports (by rw [H2.out]; exact h)
  have HL2 : Hid (¬ n3 ≤ 8 → R = false) := fun h => HR.out ▸ may_robots (by rw [H3.out]; exact h)
  have HL3 : Hid (¬ n1 ≤ 256 → R = false) := fun h => HR.out ▸ may_blocked (by rw [H1.out]; exact h)
  try rw [hn1] at cN
  try rw [hn2] at cN
  try rw [hn3] at cN
  try rw [hn1] at cI
  try rw [hn2] at cI
  try rw [hn3] at cI
  try rw [hn1] at cB
  try rw [hn2] at cB
  try rw [hn3] at cB
  try rw [hn1] at cP
  try rw [hn2] at cP
  try rw [hn3] at cP
  try rw [hn1] at cH
  try rw [hn2] at cH
  try rw [hn3] at cH
  try rw [hn1] at cE
  try rw [hn2] at cE
  try rw [hn3] at cE
  try rw [hn1] at cF
  try rw [hn2] at cF
  try rw [hn3] at cF
  try rw [hn1] at cZ
  try rw [hn2] at cZ
  try rw [hn3] at cZ
  try rw [hn1] at hFb
  try rw [hn2] at hFb
  try rw [hn3] at hFb
  try rw [hn1] at hFp
  try rw [hn2] at hFp
  try rw [hn3] at hFp
  try rw [hn1] at hFr
  try rw [hn2] at hFr
  try rw [hn3] at hFr
  try rw [hn1] at h1
  try rw [hn2] at h1
  try rw [hn3] at h1
  try rw [hn1] at h2
  try rw [hn2] at h2
  try rw [hn3] at h2
  try rw [hn1] at h3
  try rw [hn2] at h3
  try rw [hn3] at h3
  try rw [hn1]
  try rw [hn2]
  try rw [hn3]
  clear hn1 hn2 hn3 hA L hR hbs e1 e2 e3
  have hide : ∀ {p : Prop}, p → Hid p := fun h => h
  replace cI := hide cI
  replace cB := hide cB
  replace cP := hide cP
  replace cH := hide cH
  replace cE := hide cE
  replace cF := hide cF
  replace cZ := hide cZ
  replace hFb := hide hFb
  replace hFp := hide hFp
  replace hFr := hide hFr
  clear hide
  have Q0 : Hid (One w #[.int .i64 c.W, .int .i64 c.H, .int .i64 c.height, .slice a1 n1 cap1, .slice a2 n2 cap2, .slice a3 n3 cap3, vs, .int .i64 c.unit, .int .i64 c.accel, .int .i64 c.speed, .int .i64 c.turn, .int .i64 c.hoist, .int .i64 c.queue, .int .i64 c.resend, .int .i64 c.budget, .bool c.back] (w.alloc (.cells #[.int .i64 c.W, .int .i64 c.H, .int .i64 c.height, .slice a1 n1 cap1, .slice a2 n2 cap2, .slice a3 n3 cap3, vs, .int .i64 c.unit, .int .i64 c.accel, .int .i64 c.speed, .int .i64 c.turn, .int .i64 c.hoist, .int .i64 c.queue, .int .i64 c.resend, .int .i64 c.budget, .bool c.back] 26))) := ⟨below_new (Below.refl _ _) _, heap_alloc_new w _⟩
  obtain ⟨lm, hlm⟩ : ∃ lm, limited c = lm := ⟨_, rfl⟩
  have HLM : Hid (limited c = lm) := hlm
  rw [hlm] at cN HL0
  clear hlm
  cases lm
  · have HT : Hid (R = false) := HL0.out rfl
    go_enter Try.func9, Try.ntmps9
    go_wp2_with (first
      | (refine wpList_load_row rfl 26 (.tmp 1) rfl w.heap.size rfl 26 #[.int .i64 c.W, .int .i64 c.H, .int .i64 c.height, .slice a1 n1 cap1, .slice a2 n2 cap2, .slice a3 n3 cap3, vs, .int .i64 c.unit, .int .i64 c.accel, .int .i64 c.speed, .int .i64 c.turn, .int .i64 c.hoist, .int .i64 c.queue, .int .i64 c.resend, .int .i64 c.budget, .bool c.back] (0, 0) _ Q0.out.a Try.underlying26 rfl info_conf ?_)
      | (go_at_call 32; refine (cN _).mono ?_; rintro e w1 ⟨r1, rfl, rfl, b1⟩; have Q1 : Hid (One w #[.int .i64 c.W, .int .i64 c.H, .int .i64 c.height, .slice a1 n1 cap1, .slice a2 n2 cap2, .slice a3 n3 cap3, vs, .int .i64 c.unit, .int .i64 c.accel, .int .i64 c.speed, .int .i64 c.turn, .int .i64 c.hoist, .int .i64 c.queue, .int .i64 c.resend, .int .i64 c.budget, .bool c.back] w1) := Q0.out.go b1; have d3 := cell_of Q1.out.a 3; have d4 := cell_of Q1.out.a 4; have d5 := cell_of Q1.out.a 5))
    go_ret
    exact ⟨_, rfl, congrArg Value.bool HT.out.symm, Q1.out.below⟩
  · by_cases h8 : n2 ≤ 8
    rotate_left
    · have h8i : (8 : Int) < (n2 : Int) := by omega
      have HT : Hid (R = false) := HL1.out h8
      go_enter Try.func9, Try.ntmps9
      go_wp2_with (first
        | (refine wpList_load_row rfl 26 (.tmp 1) rfl w.heap.size rfl 26 #[.int .i64 c.W, .int .i64 c.H, .int .i64 c.height, .slice a1 n1 cap1, .slice a2 n2 cap2, .slice a3 n3 cap3, vs, .int .i64 c.unit, .int .i64 c.accel, .int .i64 c.speed, .int .i64 c.turn, .int .i64 c.hoist, .int .i64 c.queue, .int .i64 c.resend, .int .i64 c.budget, .bool c.back] (0, 0) _ Q0.out.a Try.underlying26 rfl info_conf ?_)
        | (go_at_call 32; refine (cN _).mono ?_; rintro e w1 ⟨r1, rfl, rfl, b1⟩; have Q1 : Hid (One w #[.int .i64 c.W, .int .i64 c.H, .int .i64 c.height, .slice a1 n1 cap1, .slice a2 n2 cap2, .slice a3 n3 cap3, vs, .int .i64 c.unit, .int .i64 c.accel, .int .i64 c.speed, .int .i64 c.turn, .int .i64 c.hoist, .int .i64 c.queue, .int .i64 c.resend, .int .i64 c.budget, .bool c.back] w1) := Q0.out.go b1; have d3 := cell_of Q1.out.a 3; have d4 := cell_of Q1.out.a 4; have d5 := cell_of Q1.out.a 5))
      go_ret
      exact ⟨_, rfl, congrArg Value.bool HT.out.symm, Q1.out.below⟩
    have h8i : ¬ (8 : Int) < (n2 : Int) := by omega
    by_cases h9 : n3 ≤ 8
    rotate_left
    · have h9i : (8 : Int) < (n3 : Int) := by omega
      have HT : Hid (R = false) := HL2.out h9
      go_enter Try.func9, Try.ntmps9
      go_wp2_with (first
        | (refine wpList_load_row rfl 26 (.tmp 1) rfl w.heap.size rfl 26 #[.int .i64 c.W, .int .i64 c.H, .int .i64 c.height, .slice a1 n1 cap1, .slice a2 n2 cap2, .slice a3 n3 cap3, vs, .int .i64 c.unit, .int .i64 c.accel, .int .i64 c.speed, .int .i64 c.turn, .int .i64 c.hoist, .int .i64 c.queue, .int .i64 c.resend, .int .i64 c.budget, .bool c.back] (0, 0) _ Q0.out.a Try.underlying26 rfl info_conf ?_)
        | (go_at_call 32; refine (cN _).mono ?_; rintro e w1 ⟨r1, rfl, rfl, b1⟩; have Q1 : Hid (One w #[.int .i64 c.W, .int .i64 c.H, .int .i64 c.height, .slice a1 n1 cap1, .slice a2 n2 cap2, .slice a3 n3 cap3, vs, .int .i64 c.unit, .int .i64 c.accel, .int .i64 c.speed, .int .i64 c.turn, .int .i64 c.hoist, .int .i64 c.queue, .int .i64 c.resend, .int .i64 c.budget, .bool c.back] w1) := Q0.out.go b1; have d3 := cell_of Q1.out.a 3; have d4 := cell_of Q1.out.a 4; have d5 := cell_of Q1.out.a 5))
      go_ret
      exact ⟨_, rfl, congrArg Value.bool HT.out.symm, Q1.out.below⟩
    have h9i : ¬ (8 : Int) < (n3 : Int) := by omega
    by_cases h10 : n1 ≤ 256
    rotate_left
    · have h10i : (256 : Int) < (n1 : Int) := by omega
      have HT : Hid (R = false) := HL3.out h10
      go_enter Try.func9, Try.ntmps9
      go_wp2_with (first
        | (refine wpList_load_row rfl 26 (.tmp 1) rfl w.heap.size rfl 26 #[.int .i64 c.W, .int .i64 c.H, .int .i64 c.height, .slice a1 n1 cap1, .slice a2 n2 cap2, .slice a3 n3 cap3, vs, .int .i64 c.unit, .int .i64 c.accel, .int .i64 c.speed, .int .i64 c.turn, .int .i64 c.hoist, .int .i64 c.queue, .int .i64 c.resend, .int .i64 c.budget, .bool c.back] (0, 0) _ Q0.out.a Try.underlying26 rfl info_conf ?_)
        | (go_at_call 32; refine (cN _).mono ?_; rintro e w1 ⟨r1, rfl, rfl, b1⟩; have Q1 : Hid (One w #[.int .i64 c.W, .int .i64 c.H, .int .i64 c.height, .slice a1 n1 cap1, .slice a2 n2 cap2, .slice a3 n3 cap3, vs, .int .i64 c.unit, .int .i64 c.accel, .int .i64 c.speed, .int .i64 c.turn, .int .i64 c.hoist, .int .i64 c.queue, .int .i64 c.resend, .int .i64 c.budget, .bool c.back] w1) := Q0.out.go b1; have d3 := cell_of Q1.out.a 3; have d4 := cell_of Q1.out.a 4; have d5 := cell_of Q1.out.a 5))
      go_ret
      exact ⟨_, rfl, congrArg Value.bool HT.out.symm, Q1.out.below⟩
    have h10i : ¬ (256 : Int) < (n1 : Int) := by omega
    go_enter Try.func9, Try.ntmps9
    go_wp2_with (first
      | (refine wpList_load_row rfl 26 (.tmp 1) rfl w.heap.size rfl 26 #[.int .i64 c.W, .int .i64 c.H, .int .i64 c.height, .slice a1 n1 cap1, .slice a2 n2 cap2, .slice a3 n3 cap3, vs, .int .i64 c.unit, .int .i64 c.accel, .int .i64 c.speed, .int .i64 c.turn, .int .i64 c.hoist, .int .i64 c.queue, .int .i64 c.resend, .int .i64 c.budget, .bool c.back] (0, 0) _ Q0.out.a Try.underlying26 rfl info_conf ?_)
      | (go_at_call 32; refine (cN _).mono ?_; rintro e w1 ⟨r1, rfl, rfl, b1⟩; have Q1 : Hid (One w #[.int .i64 c.W, .int .i64 c.H, .int .i64 c.height, .slice a1 n1 cap1, .slice a2 n2 cap2, .slice a3 n3 cap3, vs, .int .i64 c.unit, .int .i64 c.accel, .int .i64 c.speed, .int .i64 c.turn, .int .i64 c.hoist, .int .i64 c.queue, .int .i64 c.resend, .int .i64 c.budget, .bool c.back] w1) := Q0.out.go b1; have d3 := cell_of Q1.out.a 3; have d4 := cell_of Q1.out.a 4; have d5 := cell_of Q1.out.a 5))
    go_loopw [3] (fun i wq => ∃ k : Nat, k ≤ n1 ∧ i = .int .i64 k ∧ Hid (One w #[.int .i64 c.W, .int .i64 c.H, .int .i64 c.height, .slice a1 n1 cap1, .slice a2 n2 cap2, .slice a3 n3 cap3, vs, .int .i64 c.unit, .int .i64 c.accel, .int .i64 c.speed, .int .i64 c.turn, .int .i64 c.hoist, .int .i64 c.queue, .int .i64 c.resend, .int .i64 c.budget, .bool c.back] wq) ∧ Hid (∀ b ∈ c.blocked.take k, good1 c b)) (fun i _ => n1 - (intOf i).toNat)
    case atStart => exact ⟨0, Nat.zero_le _, rfl, Q1, fun b hb => by simp at hb⟩
    case round =>
      obtain ⟨k, hk, rfl, HQ, HG⟩ := hrel
      clear d3 d4 d5 b1 Q0 Q1
      have k3 : wr.cell? ⟨w.heap.size, 3, none⟩ = some (.slice a1 n1 cap1) := cell_of HQ.out.a 3
      have k4 : wr.cell? ⟨w.heap.size, 4, none⟩ = some (.slice a2 n2 cap2) := cell_of HQ.out.a 4
      by_cases hlt : k < n1
      · have hlt' : k < c.blocked.length := by rw [H1.out]; exact hlt
        have B := HQ.out.below
        have eA := HQ.out.a
        have HBad : Hid (¬ good1 c (c.blocked[k]'hlt') → R = false) := fun h => HR.out ▸ may_b (List.getElem_mem hlt') h
        have HNx : Hid (good1 c (c.blocked[k]'hlt') → ∀ b ∈ c.blocked.take (k + 1), good1 c b) := fun h => all_next hlt' HG.out h
        obtain ⟨p, cs, cap', hv, hpF, hcs, hrd⟩ := (hFb.out wr B).item hlt'
        generalize c.blocked[k]'hlt' = qr at *
        obtain ⟨x, y⟩ := qr
        obtain rfl := hcs
        rw [H1.out] at hv
        obtain ⟨rfl, rfl⟩ : a1 = some p ∧ cap1 = cap' := by injection hv with h1 h2 h3; exact ⟨h1, h3⟩
        clear hv
        have c1 := cI.out x y
        have c2 := cB.out x y
        have c3 := cP.out x y
        obtain ⟨ib, hib⟩ : ∃ ib, decide (In c.W c.H (x, y)) = ib := ⟨_, rfl⟩
        obtain ⟨m1, hm1⟩ : ∃ m, c.blocked.count (x, y) = m := ⟨_, rfl⟩
        obtain ⟨m2, hm2⟩ : ∃ m, c.ports.count (x, y) = m := ⟨_, rfl⟩
        have HG1 : Hid (ib = true → m1 ≤ 1 → m2 = 0 → good1 c (x, y)) := fun q1 q2 q3 => ⟨of_decide_eq_true (hib.trans q1), by rw [hm1]; exact q2, by rw [hm2]; exact q3⟩
        have HG2 : Hid (good1 c (x, y) → ib = true ∧ m1 ≤ 1 ∧ m2 = 0) := fun q => ⟨by rw [← hib]; exact decide_eq_true q.1, by rw [← hm1]; exact q.2.1, by rw [← hm2]; exact q.2.2⟩
        rw [hib] at c1
        rw [hm1] at c2
        rw [hm2] at c3
        clear hib hm1 hm2
        go_wp2
        obtain ⟨IH, hIH⟩ : ∃ I : World → Prop, I = Below wr.heap.size wr := ⟨_, rfl⟩
        have kI : ∀ u, IH u → Below wr.heap.size wr u := fun u hu => by rw [hIH] at hu; exact hu
        have hS : IH wr.drew := by rw [hIH]; exact (Below.refl _ _).drew
        have D0 : Below wr.heap.size wr wr.drew := (Below.refl _ _).drew
        have HCF : Hid (∀ u, IH u → ∀ j z, #[.int .i64 c.W, .int .i64 c.H, .int .i64 c.height, .slice (some p) n1 cap1, .slice a2 n2 cap2, .slice a3 n3 cap3, vs, .int .i64 c.unit, .int .i64 c.accel, .int .i64 c.speed, .int .i64 c.turn, .int .i64 c.hoist, .int .i64 c.queue, .int .i64 c.resend, .int .i64 c.budget, .bool c.back][j]? = some z → u.cell? ((⟨w.heap.size, 0, none⟩ : Addr).add j) = some z) := fun u hu => row_below eA (kI u hu)
        have z3 : ∀ u, IH u → u.cell? ⟨w.heap.size, 3, none⟩ = some (.slice (some p) n1 cap1) := fun u hu => cell_below k3 (kI u hu)
        have z4 : ∀ u, IH u → u.cell? ⟨w.heap.size, 4, none⟩ = some (.slice a2 n2 cap2) := fun u hu => cell_below k4 (kI u hu)
        have HX : Hid (∀ u, IH u → ∀ j z, #[Value.int .i64 x, .int .i64 y][j]? = some z → u.cell? ((p.add (k * 2)).add j) = some z) := fun u hu j z hj => cell_below (hrd j z hj) (kI u hu)
        clear hrd
        refine start_held (S := IH) 30 rfl (by kernel_rfl) (hS) ?_
        simp only [Array.replicate_succ, Array.replicate_zero, List.push_toArray, List.nil_append, List.cons_append]
        refine take_held 0 (by assumption) rfl (by kernel_rfl) (by kernel_rfl) (by kernel_rfl) (fun _ _ _ h => h) (by kernel_rfl) (v := .agg #[.int .i64 c.W, .int .i64 c.H, .int .i64 c.height, .slice (some p) n1 cap1, .slice a2 n2 cap2, .slice a3 n3 cap3, vs, .int .i64 c.unit, .int .i64 c.accel, .int .i64 c.speed, .int .i64 c.turn, .int .i64 c.hoist, .int .i64 c.queue, .int .i64 c.resend, .int .i64 c.budget, .bool c.back]) ?y64 ?r64
        case y64 => (intro u hu; exact run_load_op 26 _ rfl ⟨w.heap.size, 0, none⟩ _ rfl (HCF.out u hu) (aggConf u) info_conf)
        simp only [Act.put, List.setIfInBounds_toArray, List.set_cons_zero, List.set_cons_succ]
        refine take_held 1 (by assumption) rfl (by kernel_rfl) (by kernel_rfl) (by kernel_rfl) (fun _ _ _ h => h) (by kernel_rfl) (v := ?v65) ?y65 ?r65
        case y65 => (intro u hu; go_simp; try rfl)
        simp only [Act.put, List.setIfInBounds_toArray, List.set_cons_zero, List.set_cons_succ]
        refine take_held 2 (by assumption) rfl (by kernel_rfl) (by kernel_rfl) (by kernel_rfl) (fun _ _ _ h => h) (by kernel_rfl) (v := ?v66) ?y66 ?r66
        case y66 => (intro u hu; have zz0 := z3 u hu; go_simp; try rfl)
        simp only [Act.put, List.setIfInBounds_toArray, List.set_cons_zero, List.set_cons_succ]
        refine take_held 3 (by assumption) rfl (by kernel_rfl) (by kernel_rfl) (by kernel_rfl) (fun _ _ _ h => h) (by kernel_rfl) (v := ?v67) ?y67 ?r67
        case y67 => (intro u hu; go_simp; try rfl)
        simp only [Act.put, List.setIfInBounds_toArray, List.set_cons_zero, List.set_cons_succ]
        refine take_held 4 (by assumption) rfl (by kernel_rfl) (by kernel_rfl) (by kernel_rfl) (fun _ _ _ h => h) (by kernel_rfl) (v := ?v68) ?y68 ?r68
        case y68 => (intro u hu; go_simp; try rfl)
        simp only [Act.put, List.setIfInBounds_toArray, List.set_cons_zero, List.set_cons_succ]
        refine take_held 5 (by assumption) rfl (by kernel_rfl) (by kernel_rfl) (by kernel_rfl) (fun _ _ _ h => h) (by kernel_rfl) (v := .agg #[.int .i64 x, .int .i64 y]) ?y69 ?r69
        case y69 => (intro u hu; exact run_load_op 39 _ rfl (p.add (k * 2)) _ rfl (HX.out u hu) (aggCell u) infoCell2)
        simp only [Act.put, List.setIfInBounds_toArray, List.set_cons_zero, List.set_cons_succ]
        refine wpAnyH_ready (rs := [6]) (by kernel_rfl) (by simp) (AllReadyH.cons ((nth_eq _ 6).trans rfl) ?_ AllReadyH.nil)
        intro K' hK
        refine call_in hK (by kernel_rfl) 33 #[.agg #[.int .i64 c.W, .int .i64 c.H, .int .i64 c.height, .slice (some p) n1 cap1, .slice a2 n2 cap2, .slice a3 n3 cap3, vs, .int .i64 c.unit, .int .i64 c.accel, .int .i64 c.speed, .int .i64 c.turn, .int .i64 c.hoist, .int .i64 c.queue, .int .i64 c.resend, .int .i64 c.budget, .bool c.back], .agg #[.int .i64 x, .int .i64 y]] (by go_simp) _ (c1 _) ?_
        rintro v w5 ⟨rfl, b5⟩
        have D5 := bcat D0 b5 (Nat.le_refl _)
        have hS5 : IH w5 := by rw [hIH]; exact D5
        refine ⟨hS5, ?_⟩
        simp only [Act.put, List.setIfInBounds_toArray, List.set_cons_zero, List.set_cons_succ]
        cases ib
        · have HT : Hid (R = false) := HBad.out (fun q => by have := (HG2.out q).1; cases this)
          refine take_held 7 (by assumption) rfl (by kernel_rfl) (by kernel_rfl) (by kernel_rfl) (fun _ _ _ h => h) (by kernel_rfl) (v := ?v70) ?y70 ?r70
          case y70 => (intro u hu; go_simp; try rfl)
          simp only [Act.put, List.setIfInBounds_toArray, List.set_cons_zero, List.set_cons_succ]
          refine take_held 8 (by assumption) rfl (by kernel_rfl) (by kernel_rfl) (by kernel_rfl) (fun _ _ _ h => h) (by kernel_rfl) (v := ?v71) ?y71 ?r71
          case y71 => (intro u hu; go_simp; try rfl)
          simp only [Act.put, List.setIfInBounds_toArray, List.set_cons_zero, List.set_cons_succ]
          refine skip_held 9 (by assumption) rfl (by kernel_rfl) (by kernel_rfl) (by kernel_rfl) (fun _ _ _ h => h) (by kernel_rfl) ?_
          simp only [Act.put, List.setIfInBounds_toArray, List.set_cons_zero, List.set_cons_succ]
          refine skip_held 10 (by assumption) rfl (by kernel_rfl) (by kernel_rfl) (by kernel_rfl) (fun _ _ _ h => h) (by kernel_rfl) ?_
          simp only [Act.put, List.setIfInBounds_toArray, List.set_cons_zero, List.set_cons_succ]
          refine skip_held 11 (by assumption) rfl (by kernel_rfl) (by kernel_rfl) (by kernel_rfl) (fun _ _ _ h => h) (by kernel_rfl) ?_
          simp only [Act.put, List.setIfInBounds_toArray, List.set_cons_zero, List.set_cons_succ]
          refine skip_held 12 (by assumption) rfl (by kernel_rfl) (by kernel_rfl) (by kernel_rfl) (fun _ _ _ h => h) (by kernel_rfl) ?_
          simp only [Act.put, List.setIfInBounds_toArray, List.set_cons_zero, List.set_cons_succ]
          refine skip_held 13 (by assumption) rfl (by kernel_rfl) (by kernel_rfl) (by kernel_rfl) (fun _ _ _ h => h) (by kernel_rfl) ?_
          simp only [Act.put, List.setIfInBounds_toArray, List.set_cons_zero, List.set_cons_succ]
          refine skip_held 14 (by assumption) rfl (by kernel_rfl) (by kernel_rfl) (by kernel_rfl) (fun _ _ _ h => h) (by kernel_rfl) ?_
          simp only [Act.put, List.setIfInBounds_toArray, List.set_cons_zero, List.set_cons_succ]
          refine skip_held 15 (by assumption) rfl (by kernel_rfl) (by kernel_rfl) (by kernel_rfl) (fun _ _ _ h => h) (by kernel_rfl) ?_
          simp only [Act.put, List.setIfInBounds_toArray, List.set_cons_zero, List.set_cons_succ]
          refine skip_held 16 (by assumption) rfl (by kernel_rfl) (by kernel_rfl) (by kernel_rfl) (fun _ _ _ h => h) (by kernel_rfl) ?_
          simp only [Act.put, List.setIfInBounds_toArray, List.set_cons_zero, List.set_cons_succ]
          refine skip_held 17 (by assumption) rfl (by kernel_rfl) (by kernel_rfl) (by kernel_rfl) (fun _ _ _ h => h) (by kernel_rfl) ?_
          simp only [Act.put, List.setIfInBounds_toArray, List.set_cons_zero, List.set_cons_succ]
          refine take_held 18 (by assumption) rfl (by kernel_rfl) (by kernel_rfl) (by kernel_rfl) (fun _ _ _ h => h) (by kernel_rfl) (v := ?v72) ?y72 ?r72
          case y72 => (intro u hu; go_simp; try rfl)
          simp only [Act.put, List.setIfInBounds_toArray, List.set_cons_zero, List.set_cons_succ]
          refine take_held 19 (by assumption) rfl (by kernel_rfl) (by kernel_rfl) (by kernel_rfl) (fun _ _ _ h => h) (by kernel_rfl) (v := ?v73) ?y73 ?r73
          case y73 => (intro u hu; go_simp; try rfl)
          simp only [Act.put, List.setIfInBounds_toArray, List.set_cons_zero, List.set_cons_succ]
          refine skip_held 20 (by assumption) rfl (by kernel_rfl) (by kernel_rfl) (by kernel_rfl) (fun _ _ _ h => h) (by kernel_rfl) ?_
          simp only [Act.put, List.setIfInBounds_toArray, List.set_cons_zero, List.set_cons_succ]
          refine skip_held 21 (by assumption) rfl (by kernel_rfl) (by kernel_rfl) (by kernel_rfl) (fun _ _ _ h => h) (by kernel_rfl) ?_
          simp only [Act.put, List.setIfInBounds_toArray, List.set_cons_zero, List.set_cons_succ]
          refine skip_held 22 (by assumption) rfl (by kernel_rfl) (by kernel_rfl) (by kernel_rfl) (fun _ _ _ h => h) (by kernel_rfl) ?_
          simp only [Act.put, List.setIfInBounds_toArray, List.set_cons_zero, List.set_cons_succ]
          refine skip_held 23 (by assumption) rfl (by kernel_rfl) (by kernel_rfl) (by kernel_rfl) (fun _ _ _ h => h) (by kernel_rfl) ?_
          simp only [Act.put, List.setIfInBounds_toArray, List.set_cons_zero, List.set_cons_succ]
          refine skip_held 24 (by assumption) rfl (by kernel_rfl) (by kernel_rfl) (by kernel_rfl) (fun _ _ _ h => h) (by kernel_rfl) ?_
          simp only [Act.put, List.setIfInBounds_toArray, List.set_cons_zero, List.set_cons_succ]
          refine skip_held 25 (by assumption) rfl (by kernel_rfl) (by kernel_rfl) (by kernel_rfl) (fun _ _ _ h => h) (by kernel_rfl) ?_
          simp only [Act.put, List.setIfInBounds_toArray, List.set_cons_zero, List.set_cons_succ]
          refine skip_held 26 (by assumption) rfl (by kernel_rfl) (by kernel_rfl) (by kernel_rfl) (fun _ _ _ h => h) (by kernel_rfl) ?_
          simp only [Act.put, List.setIfInBounds_toArray, List.set_cons_zero, List.set_cons_succ]
          refine skip_held 27 (by assumption) rfl (by kernel_rfl) (by kernel_rfl) (by kernel_rfl) (fun _ _ _ h => h) (by kernel_rfl) ?_
          simp only [Act.put, List.setIfInBounds_toArray, List.set_cons_zero, List.set_cons_succ]
          refine skip_held 28 (by assumption) rfl (by kernel_rfl) (by kernel_rfl) (by kernel_rfl) (fun _ _ _ h => h) (by kernel_rfl) ?_
          simp only [Act.put, List.setIfInBounds_toArray, List.set_cons_zero, List.set_cons_succ]
          refine take_held 29 (by assumption) rfl (by kernel_rfl) (by kernel_rfl) (by kernel_rfl) (fun _ _ _ h => h) (by kernel_rfl) (v := ?v74) ?y74 ?r74
          case y74 => (intro u hu; go_simp; try rfl)
          simp only [Act.put, List.setIfInBounds_toArray, List.set_cons_zero, List.set_cons_succ]
          refine done_held (by kernel_rfl) ?_ _
          go_wp2
          go_ret
          exact ⟨_, rfl, congrArg Value.bool HT.out.symm, bcat B D5 (Nat.le_refl _)⟩
        · skip
          refine take_held 7 (by assumption) rfl (by kernel_rfl) (by kernel_rfl) (by kernel_rfl) (fun _ _ _ h => h) (by kernel_rfl) (v := ?v75) ?y75 ?r75
          case y75 => (intro u hu; go_simp; try rfl)
          simp only [Act.put, List.setIfInBounds_toArray, List.set_cons_zero, List.set_cons_succ]
          refine take_held 8 (by assumption) rfl (by kernel_rfl) (by kernel_rfl) (by kernel_rfl) (fun _ _ _ h => h) (by kernel_rfl) (v := ?v76) ?y76 ?r76
          case y76 => (intro u hu; go_simp; try rfl)
          simp only [Act.put, List.setIfInBounds_toArray, List.set_cons_zero, List.set_cons_succ]
          refine take_held 9 (by assumption) rfl (by kernel_rfl) (by kernel_rfl) (by kernel_rfl) (fun _ _ _ h => h) (by kernel_rfl) (v := ?v77) ?y77 ?r77
          case y77 => (intro u hu; go_simp; try rfl)
          simp only [Act.put, List.setIfInBounds_toArray, List.set_cons_zero, List.set_cons_succ]
          refine take_held 10 (by assumption) rfl (by kernel_rfl) (by kernel_rfl) (by kernel_rfl) (fun _ _ _ h => h) (by kernel_rfl) (v := ?v78) ?y78 ?r78
          case y78 => (intro u hu; have zz0 := z3 u hu; go_simp; try rfl)
          simp only [Act.put, List.setIfInBounds_toArray, List.set_cons_zero, List.set_cons_succ]
          refine take_held 11 (by assumption) rfl (by kernel_rfl) (by kernel_rfl) (by kernel_rfl) (fun _ _ _ h => h) (by kernel_rfl) (v := ?v79) ?y79 ?r79
          case y79 => (intro u hu; go_simp; try rfl)
          simp only [Act.put, List.setIfInBounds_toArray, List.set_cons_zero, List.set_cons_succ]
          refine take_held 12 (by assumption) rfl (by kernel_rfl) (by kernel_rfl) (by kernel_rfl) (fun _ _ _ h => h) (by kernel_rfl) (v := ?v80) ?y80 ?r80
          case y80 => (intro u hu; have zz0 := z3 u hu; go_simp; try rfl)
          simp only [Act.put, List.setIfInBounds_toArray, List.set_cons_zero, List.set_cons_succ]
          refine take_held 13 (by assumption) rfl (by kernel_rfl) (by kernel_rfl) (by kernel_rfl) (fun _ _ _ h => h) (by kernel_rfl) (v := ?v81) ?y81 ?r81
          case y81 => (intro u hu; go_simp; try rfl)
          simp only [Act.put, List.setIfInBounds_toArray, List.set_cons_zero, List.set_cons_succ]
          refine take_held 14 (by assumption) rfl (by kernel_rfl) (by kernel_rfl) (by kernel_rfl) (fun _ _ _ h => h) (by kernel_rfl) (v := ?v82) ?y82 ?r82
          case y82 => (intro u hu; go_simp; try rfl)
          simp only [Act.put, List.setIfInBounds_toArray, List.set_cons_zero, List.set_cons_succ]
          refine take_held 15 (by assumption) rfl (by kernel_rfl) (by kernel_rfl) (by kernel_rfl) (fun _ _ _ h => h) (by kernel_rfl) (v := .agg #[.int .i64 x, .int .i64 y]) ?y83 ?r83
          case y83 => (intro u hu; exact run_load_op 39 _ rfl (p.add (k * 2)) _ rfl (HX.out u hu) (aggCell u) infoCell2)
          simp only [Act.put, List.setIfInBounds_toArray, List.set_cons_zero, List.set_cons_succ]
          refine wpAnyH_ready (rs := [16]) (by kernel_rfl) (by simp) (AllReadyH.cons ((nth_eq _ 16).trans rfl) ?_ AllReadyH.nil)
          intro K' hK
          refine call_in hK (by kernel_rfl) 34 #[.slice (some p) n1 cap1, .agg #[.int .i64 x, .int .i64 y]] (by go_simp) _ (c2 _ (bcat B D5 (Nat.le_refl _))) ?_
          rintro v w6 ⟨rfl, b6⟩
          have D6 := bcat D5 b6 (Nat.le_refl _)
          have hS6 : IH w6 := by rw [hIH]; exact D6
          refine ⟨hS6, ?_⟩
          simp only [Act.put, List.setIfInBounds_toArray, List.set_cons_zero, List.set_cons_succ]
          by_cases g1 : m1 ≤ 1
          rotate_left
          · have HT : Hid (R = false) := HBad.out (fun q => g1 (HG2.out q).2.1)
            have g1i : (1 : Int) < (m1 : Int) := by omega
            refine take_held 17 (by assumption) rfl (by kernel_rfl) (by kernel_rfl) (by kernel_rfl) (fun _ _ _ h => h) (by kernel_rfl) (v := .bool true) ?y84 ?r84
            case y84 => (intro u hu; go_simp; try simp [g1i]; try omega)
            simp only [Act.put, List.setIfInBounds_toArray, List.set_cons_zero, List.set_cons_succ]
            refine take_held 18 (by assumption) rfl (by kernel_rfl) (by kernel_rfl) (by kernel_rfl) (fun _ _ _ h => h) (by kernel_rfl) (v := ?v85) ?y85 ?r85
            case y85 => (intro u hu; go_simp; try rfl)
            simp only [Act.put, List.setIfInBounds_toArray, List.set_cons_zero, List.set_cons_succ]
            refine take_held 19 (by assumption) rfl (by kernel_rfl) (by kernel_rfl) (by kernel_rfl) (fun _ _ _ h => h) (by kernel_rfl) (v := ?v86) ?y86 ?r86
            case y86 => (intro u hu; go_simp; try rfl)
            simp only [Act.put, List.setIfInBounds_toArray, List.set_cons_zero, List.set_cons_succ]
            refine skip_held 20 (by assumption) rfl (by kernel_rfl) (by kernel_rfl) (by kernel_rfl) (fun _ _ _ h => h) (by kernel_rfl) ?_
            simp only [Act.put, List.setIfInBounds_toArray, List.set_cons_zero, List.set_cons_succ]
            refine skip_held 21 (by assumption) rfl (by kernel_rfl) (by kernel_rfl) (by kernel_rfl) (fun _ _ _ h => h) (by kernel_rfl) ?_
            simp only [Act.put, List.setIfInBounds_toArray, List.set_cons_zero, List.set_cons_succ]
            refine skip_held 22 (by assumption) rfl (by kernel_rfl) (by kernel_rfl) (by kernel_rfl) (fun _ _ _ h => h) (by kernel_rfl) ?_
            simp only [Act.put, List.setIfInBounds_toArray, List.set_cons_zero, List.set_cons_succ]
            refine skip_held 23 (by assumption) rfl (by kernel_rfl) (by kernel_rfl) (by kernel_rfl) (fun _ _ _ h => h) (by kernel_rfl) ?_
            simp only [Act.put, List.setIfInBounds_toArray, List.set_cons_zero, List.set_cons_succ]
            refine skip_held 24 (by assumption) rfl (by kernel_rfl) (by kernel_rfl) (by kernel_rfl) (fun _ _ _ h => h) (by kernel_rfl) ?_
            simp only [Act.put, List.setIfInBounds_toArray, List.set_cons_zero, List.set_cons_succ]
            refine skip_held 25 (by assumption) rfl (by kernel_rfl) (by kernel_rfl) (by kernel_rfl) (fun _ _ _ h => h) (by kernel_rfl) ?_
            simp only [Act.put, List.setIfInBounds_toArray, List.set_cons_zero, List.set_cons_succ]
            refine skip_held 26 (by assumption) rfl (by kernel_rfl) (by kernel_rfl) (by kernel_rfl) (fun _ _ _ h => h) (by kernel_rfl) ?_
            simp only [Act.put, List.setIfInBounds_toArray, List.set_cons_zero, List.set_cons_succ]
            refine skip_held 27 (by assumption) rfl (by kernel_rfl) (by kernel_rfl) (by kernel_rfl) (fun _ _ _ h => h) (by kernel_rfl) ?_
            simp only [Act.put, List.setIfInBounds_toArray, List.set_cons_zero, List.set_cons_succ]
            refine skip_held 28 (by assumption) rfl (by kernel_rfl) (by kernel_rfl) (by kernel_rfl) (fun _ _ _ h => h) (by kernel_rfl) ?_
            simp only [Act.put, List.setIfInBounds_toArray, List.set_cons_zero, List.set_cons_succ]
            refine take_held 29 (by assumption) rfl (by kernel_rfl) (by kernel_rfl) (by kernel_rfl) (fun _ _ _ h => h) (by kernel_rfl) (v := ?v87) ?y87 ?r87
            case y87 => (intro u hu; go_simp; try rfl)
            simp only [Act.put, List.setIfInBounds_toArray, List.set_cons_zero, List.set_cons_succ]
            refine done_held (by kernel_rfl) ?_ _
            go_wp2
            go_ret
            exact ⟨_, rfl, congrArg Value.bool HT.out.symm, bcat B D6 (Nat.le_refl _)⟩
          have g1i : ¬ (1 : Int) < (m1 : Int) := by omega
          refine take_held 17 (by assumption) rfl (by kernel_rfl) (by kernel_rfl) (by kernel_rfl) (fun _ _ _ h => h) (by kernel_rfl) (v := .bool false) ?y88 ?r88
          case y88 => (intro u hu; go_simp; try simp [g1i]; try omega)
          simp only [Act.put, List.setIfInBounds_toArray, List.set_cons_zero, List.set_cons_succ]
          refine take_held 18 (by assumption) rfl (by kernel_rfl) (by kernel_rfl) (by kernel_rfl) (fun _ _ _ h => h) (by kernel_rfl) (v := ?v89) ?y89 ?r89
          case y89 => (intro u hu; go_simp; try rfl)
          simp only [Act.put, List.setIfInBounds_toArray, List.set_cons_zero, List.set_cons_succ]
          refine take_held 19 (by assumption) rfl (by kernel_rfl) (by kernel_rfl) (by kernel_rfl) (fun _ _ _ h => h) (by kernel_rfl) (v := ?v90) ?y90 ?r90
          case y90 => (intro u hu; go_simp; try rfl)
          simp only [Act.put, List.setIfInBounds_toArray, List.set_cons_zero, List.set_cons_succ]
          refine take_held 20 (by assumption) rfl (by kernel_rfl) (by kernel_rfl) (by kernel_rfl) (fun _ _ _ h => h) (by kernel_rfl) (v := ?v91) ?y91 ?r91
          case y91 => (intro u hu; go_simp; try rfl)
          simp only [Act.put, List.setIfInBounds_toArray, List.set_cons_zero, List.set_cons_succ]
          refine take_held 21 (by assumption) rfl (by kernel_rfl) (by kernel_rfl) (by kernel_rfl) (fun _ _ _ h => h) (by kernel_rfl) (v := ?v92) ?y92 ?r92
          case y92 => (intro u hu; have zz0 := z4 u hu; go_simp; try rfl)
          simp only [Act.put, List.setIfInBounds_toArray, List.set_cons_zero, List.set_cons_succ]
          refine take_held 22 (by assumption) rfl (by kernel_rfl) (by kernel_rfl) (by kernel_rfl) (fun _ _ _ h => h) (by kernel_rfl) (v := ?v93) ?y93 ?r93
          case y93 => (intro u hu; go_simp; try rfl)
          simp only [Act.put, List.setIfInBounds_toArray, List.set_cons_zero, List.set_cons_succ]
          refine take_held 23 (by assumption) rfl (by kernel_rfl) (by kernel_rfl) (by kernel_rfl) (fun _ _ _ h => h) (by kernel_rfl) (v := ?v94) ?y94 ?r94
          case y94 => (intro u hu; have zz0 := z3 u hu; go_simp; try rfl)
          simp only [Act.put, List.setIfInBounds_toArray, List.set_cons_zero, List.set_cons_succ]
          refine take_held 24 (by assumption) rfl (by kernel_rfl) (by kernel_rfl) (by kernel_rfl) (fun _ _ _ h => h) (by kernel_rfl) (v := ?v95) ?y95 ?r95
          case y95 => (intro u hu; go_simp; try rfl)
          simp only [Act.put, List.setIfInBounds_toArray, List.set_cons_zero, List.set_cons_succ]
          refine take_held 25 (by assumption) rfl (by kernel_rfl) (by kernel_rfl) (by kernel_rfl) (fun _ _ _ h => h) (by kernel_rfl) (v := ?v96) ?y96 ?r96
          case y96 => (intro u hu; go_simp; try rfl)
          simp only [Act.put, List.setIfInBounds_toArray, List.set_cons_zero, List.set_cons_succ]
          refine take_held 26 (by assumption) rfl (by kernel_rfl) (by kernel_rfl) (by kernel_rfl) (fun _ _ _ h => h) (by kernel_rfl) (v := .agg #[.int .i64 x, .int .i64 y]) ?y97 ?r97
          case y97 => (intro u hu; exact run_load_op 39 _ rfl (p.add (k * 2)) _ rfl (HX.out u hu) (aggCell u) infoCell2)
          simp only [Act.put, List.setIfInBounds_toArray, List.set_cons_zero, List.set_cons_succ]
          refine wpAnyH_ready (rs := [27]) (by kernel_rfl) (by simp) (AllReadyH.cons ((nth_eq _ 27).trans rfl) ?_ AllReadyH.nil)
          intro K' hK
          refine call_in hK (by kernel_rfl) 34 #[.slice a2 n2 cap2, .agg #[.int .i64 x, .int .i64 y]] (by go_simp) _ (c3 _ (bcat B D6 (Nat.le_refl _))) ?_
          rintro v w7 ⟨rfl, b7⟩
          have D7 := bcat D6 b7 (Nat.le_refl _)
          have hS7 : IH w7 := by rw [hIH]; exact D7
          refine ⟨hS7, ?_⟩
          simp only [Act.put, List.setIfInBounds_toArray, List.set_cons_zero, List.set_cons_succ]
          by_cases g2 : m2 = 0
          rotate_left
          · have HT : Hid (R = false) := HBad.out (fun q => g2 (HG2.out q).2.2)
            have g2i : (0 : Int) < (m2 : Int) := by omega
            refine take_held 28 (by assumption) rfl (by kernel_rfl) (by kernel_rfl) (by kernel_rfl) (fun _ _ _ h => h) (by kernel_rfl) (v := .bool true) ?y98 ?r98
            case y98 => (intro u hu; go_simp; first | exact Nat.pos_of_ne_zero g2 | omega | simp [g2i])
            simp only [Act.put, List.setIfInBounds_toArray, List.set_cons_zero, List.set_cons_succ]
            refine take_held 29 (by assumption) rfl (by kernel_rfl) (by kernel_rfl) (by kernel_rfl) (fun _ _ _ h => h) (by kernel_rfl) (v := ?v99) ?y99 ?r99
            case y99 => (intro u hu; go_simp; try rfl)
            simp only [Act.put, List.setIfInBounds_toArray, List.set_cons_zero, List.set_cons_succ]
            refine done_held (by kernel_rfl) ?_ _
            go_wp2
            go_ret
            exact ⟨_, rfl, congrArg Value.bool HT.out.symm, bcat B D7 (Nat.le_refl _)⟩
          have g2i : ¬ (0 : Int) < (m2 : Int) := by omega
          refine take_held 28 (by assumption) rfl (by kernel_rfl) (by kernel_rfl) (by kernel_rfl) (fun _ _ _ h => h) (by kernel_rfl) (v := .bool false) ?y100 ?r100
          case y100 => (intro u hu; go_simp; try simp [g2i]; try omega)
          simp only [Act.put, List.setIfInBounds_toArray, List.set_cons_zero, List.set_cons_succ]
          refine take_held 29 (by assumption) rfl (by kernel_rfl) (by kernel_rfl) (by kernel_rfl) (fun _ _ _ h => h) (by kernel_rfl) (v := ?v101) ?y101 ?r101
          case y101 => (intro u hu; go_simp; try rfl)
          simp only [Act.put, List.setIfInBounds_toArray, List.set_cons_zero, List.set_cons_succ]
          refine done_held (by kernel_rfl) ?_ _
          have HQ7 : Hid (One w #[.int .i64 c.W, .int .i64 c.H, .int .i64 c.height, .slice (some p) n1 cap1, .slice a2 n2 cap2, .slice a3 n3 cap3, vs, .int .i64 c.unit, .int .i64 c.accel, .int .i64 c.speed, .int .i64 c.turn, .int .i64 c.hoist, .int .i64 c.queue, .int .i64 c.resend, .int .i64 c.budget, .bool c.back] w7) := HQ.out.go D7
          have HG7 : Hid (∀ b ∈ c.blocked.take (k + 1), good1 c b) := HNx.out (HG1.out rfl g1 g2)
          go_wp2
          go_roundw
          case rel => exact ⟨k + 1, by omega, by go_num, HQ7, HG7⟩
          case measure => simp [intOf]; omega
      · obtain rfl : n1 = k := by omega
        have HA1 : Hid (∀ b ∈ c.blocked, good1 c b) := by
          have := HG.out
          rw [← H1.out, List.take_length] at this
          exact this
        clear HG hk hlt
        go_wp2
        clear k3 k4
        go_loopw [4] (fun i wq => ∃ k : Nat, k ≤ n2 ∧ i = .int .i64 k ∧ Hid (One w #[.int .i64 c.W, .int .i64 c.H, .int .i64 c.height, .slice a1 n1 cap1, .slice a2 n2 cap2, .slice a3 n3 cap3, vs, .int .i64 c.unit, .int .i64 c.accel, .int .i64 c.speed, .int .i64 c.turn, .int .i64 c.hoist, .int .i64 c.queue, .int .i64 c.resend, .int .i64 c.budget, .bool c.back] wq) ∧ Hid (∀ b ∈ c.ports.take k, good2 c b)) (fun i _ => n2 - (intOf i).toNat)
        case atStart => exact ⟨0, Nat.zero_le _, rfl, HQ, fun b hb => by simp at hb⟩
        case round =>
          clear HQ
          obtain ⟨k, hk, rfl, HQ, HG⟩ := hrel
          have k4 : wr.cell? ⟨w.heap.size, 4, none⟩ = some (.slice a2 n2 cap2) := cell_of HQ.out.a 4
          by_cases hlt : k < n2
          · have hlt' : k < c.ports.length := by rw [H2.out]; exact hlt
            have B := HQ.out.below
            have eA := HQ.out.a
            have HBad : Hid (¬ good2 c (c.ports[k]'hlt') → R = false) := fun h => HR.out ▸ may_p (List.getElem_mem hlt') h
            have HNx : Hid (good2 c (c.ports[k]'hlt') → ∀ b ∈ c.ports.take (k + 1), good2 c b) := fun h => all_next hlt' HG.out h
            obtain ⟨p, cs, cap', hv, hpF, hcs, hrd⟩ := (hFp.out wr B).item hlt'
            generalize c.ports[k]'hlt' = qr at *
            obtain ⟨x, y⟩ := qr
            obtain rfl := hcs
            rw [H2.out] at hv
            obtain ⟨rfl, rfl⟩ : a2 = some p ∧ cap2 = cap' := by injection hv with h1 h2 h3; exact ⟨h1, h3⟩
            clear hv
            have c1 := cI.out x y
            have c2 := cP.out x y
            have c3 := cH.out x y
            have c4 := cE.out x y
            obtain ⟨ib, hib⟩ : ∃ ib, decide (In c.W c.H (x, y)) = ib := ⟨_, rfl⟩
            obtain ⟨m1, hm1⟩ : ∃ m, c.ports.count (x, y) = m := ⟨_, rfl⟩
            obtain ⟨hb, hhb⟩ : ∃ hb, decide ((x, y) ∈ homes c) = hb := ⟨_, rfl⟩
            obtain ⟨eb, heb⟩ : ∃ eb, decide (besideR c (x, y)) = eb := ⟨_, rfl⟩
            have HG1 : Hid (ib = true → m1 ≤ 1 → hb = false → eb = true → good2 c (x, y)) := fun q1 q2 q3 q4 => ⟨of_decide_eq_true (hib.trans q1), by rw [hm1]; exact q2, of_decide_eq_false (hhb.trans q3), of_decide_eq_true (heb.trans q4)⟩
            have HG2 : Hid (good2 c (x, y) → ib = true ∧ m1 ≤ 1 ∧ hb = false ∧ eb = true) := fun q => ⟨by rw [← hib]; exact decide_eq_true q.1, by rw [← hm1]; exact q.2.1, by rw [← hhb]; exact decide_eq_false q.2.2.1, by rw [← heb]; exact decide_eq_true q.2.2.2⟩
            rw [hib] at c1
            rw [hm1] at c2
            rw [hhb] at c3
            rw [heb] at c4
            clear hib hm1 hhb heb
            go_wp2
            obtain ⟨IH, hIH⟩ : ∃ I : World → Prop, I = Below wr.heap.size wr := ⟨_, rfl⟩
            have kI : ∀ u, IH u → Below wr.heap.size wr u := fun u hu => by rw [hIH] at hu; exact hu
            have hS : IH wr.drew := by rw [hIH]; exact (Below.refl _ _).drew
            have D0 : Below wr.heap.size wr wr.drew := (Below.refl _ _).drew
            have HCF : Hid (∀ u, IH u → ∀ j z, #[.int .i64 c.W, .int .i64 c.H, .int .i64 c.height, .slice a1 n1 cap1, .slice (some p) n2 cap2, .slice a3 n3 cap3, vs, .int .i64 c.unit, .int .i64 c.accel, .int .i64 c.speed, .int .i64 c.turn, .int .i64 c.hoist, .int .i64 c.queue, .int .i64 c.resend, .int .i64 c.budget, .bool c.back][j]? = some z → u.cell? ((⟨w.heap.size, 0, none⟩ : Addr).add j) = some z) := fun u hu => row_below eA (kI u hu)
            have z4 : ∀ u, IH u → u.cell? ⟨w.heap.size, 4, none⟩ = some (.slice (some p) n2 cap2) := fun u hu => cell_below k4 (kI u hu)
            have HX : Hid (∀ u, IH u → ∀ j z, #[Value.int .i64 x, .int .i64 y][j]? = some z → u.cell? ((p.add (k * 2)).add j) = some z) := fun u hu j z hj => cell_below (hrd j z hj) (kI u hu)
            clear hrd
            refine start_held (S := IH) 38 rfl (by kernel_rfl) (hS) ?_
            simp only [Array.replicate_succ, Array.replicate_zero, List.push_toArray, List.nil_append, List.cons_append]
            refine take_held 0 (by assumption) rfl (by kernel_rfl) (by kernel_rfl) (by kernel_rfl) (fun _ _ _ h => h) (by kernel_rfl) (v := .agg #[.int .i64 c.W, .int .i64 c.H, .int .i64 c.height, .slice a1 n1 cap1, .slice (some p) n2 cap2, .slice a3 n3 cap3, vs, .int .i64 c.unit, .int .i64 c.accel, .int .i64 c.speed, .int .i64 c.turn, .int .i64 c.hoist, .int .i64 c.queue, .int .i64 c.resend, .int .i64 c.budget, .bool c.back]) ?y102 ?r102
            case y102 => (intro u hu; exact run_load_op 26 _ rfl ⟨w.heap.size, 0, none⟩ _ rfl (HCF.out u hu) (aggConf u) info_conf)
            simp only [Act.put, List.setIfInBounds_toArray, List.set_cons_zero, List.set_cons_succ]
            refine take_held 1 (by assumption) rfl (by kernel_rfl) (by kernel_rfl) (by kernel_rfl) (fun _ _ _ h => h) (by kernel_rfl) (v := ?v103) ?y103 ?r103
            case y103 => (intro u hu; go_simp; try rfl)
            simp only [Act.put, List.setIfInBounds_toArray, List.set_cons_zero, List.set_cons_succ]
            refine take_held 2 (by assumption) rfl (by kernel_rfl) (by kernel_rfl) (by kernel_rfl) (fun _ _ _ h => h) (by kernel_rfl) (v := ?v104) ?y104 ?r104
            case y104 => (intro u hu; have zz0 := z4 u hu; go_simp; try rfl)
            simp only [Act.put, List.setIfInBounds_toArray, List.set_cons_zero, List.set_cons_succ]
            refine take_held 3 (by assumption) rfl (by kernel_rfl) (by kernel_rfl) (by kernel_rfl) (fun _ _ _ h => h) (by kernel_rfl) (v := ?v105) ?y105 ?r105
            case y105 => (intro u hu; go_simp; try rfl)
            simp only [Act.put, List.setIfInBounds_toArray, List.set_cons_zero, List.set_cons_succ]
            refine take_held 4 (by assumption) rfl (by kernel_rfl) (by kernel_rfl) (by kernel_rfl) (fun _ _ _ h => h) (by kernel_rfl) (v := ?v106) ?y106 ?r106
            case y106 => (intro u hu; go_simp; try rfl)
            simp only [Act.put, List.setIfInBounds_toArray, List.set_cons_zero, List.set_cons_succ]
            refine take_held 5 (by assumption) rfl (by kernel_rfl) (by kernel_rfl) (by kernel_rfl) (fun _ _ _ h => h) (by kernel_rfl) (v := .agg #[.int .i64 x, .int .i64 y]) ?y107 ?r107
            case y107 => (intro u hu; exact run_load_op 39 _ rfl (p.add (k * 2)) _ rfl (HX.out u hu) (aggCell u) infoCell2)
            simp only [Act.put, List.setIfInBounds_toArray, List.set_cons_zero, List.set_cons_succ]
            refine wpAnyH_ready (rs := [6]) (by kernel_rfl) (by simp) (AllReadyH.cons ((nth_eq _ 6).trans rfl) ?_ AllReadyH.nil)
            intro K' hK
            refine call_in hK (by kernel_rfl) 33 #[.agg #[.int .i64 c.W, .int .i64 c.H, .int .i64 c.height, .slice a1 n1 cap1, .slice (some p) n2 cap2, .slice a3 n3 cap3, vs, .int .i64 c.unit, .int .i64 c.accel, .int .i64 c.speed, .int .i64 c.turn, .int .i64 c.hoist, .int .i64 c.queue, .int .i64 c.resend, .int .i64 c.budget, .bool c.back], .agg #[.int .i64 x, .int .i64 y]] (by go_simp) _ (c1 _) ?_
            rintro v w5 ⟨rfl, b5⟩
            have D5 := bcat D0 b5 (Nat.le_refl _)
            have hS5 : IH w5 := by rw [hIH]; exact D5
            refine ⟨hS5, ?_⟩
            simp only [Act.put, List.setIfInBounds_toArray, List.set_cons_zero, List.set_cons_succ]
            cases ib
            · have HT : Hid (R = false) := HBad.out (fun q => by have := (HG2.out q).1; cases this)
              refine take_held 7 (by assumption) rfl (by kernel_rfl) (by kernel_rfl) (by kernel_rfl) (fun _ _ _ h => h) (by kernel_rfl) (v := ?v108) ?y108 ?r108
              case y108 => (intro u hu; go_simp; try rfl)
              simp only [Act.put, List.setIfInBounds_toArray, List.set_cons_zero, List.set_cons_succ]
              refine take_held 8 (by assumption) rfl (by kernel_rfl) (by kernel_rfl) (by kernel_rfl) (fun _ _ _ h => h) (by kernel_rfl) (v := ?v109) ?y109 ?r109
              case y109 => (intro u hu; go_simp; try rfl)
              simp only [Act.put, List.setIfInBounds_toArray, List.set_cons_zero, List.set_cons_succ]
              refine skip_held 9 (by assumption) rfl (by kernel_rfl) (by kernel_rfl) (by kernel_rfl) (fun _ _ _ h => h) (by kernel_rfl) ?_
              simp only [Act.put, List.setIfInBounds_toArray, List.set_cons_zero, List.set_cons_succ]
              refine skip_held 10 (by assumption) rfl (by kernel_rfl) (by kernel_rfl) (by kernel_rfl) (fun _ _ _ h => h) (by kernel_rfl) ?_
              simp only [Act.put, List.setIfInBounds_toArray, List.set_cons_zero, List.set_cons_succ]
              refine skip_held 11 (by assumption) rfl (by kernel_rfl) (by kernel_rfl) (by kernel_rfl) (fun _ _ _ h => h) (by kernel_rfl) ?_
              simp only [Act.put, List.setIfInBounds_toArray, List.set_cons_zero, List.set_cons_succ]
              refine skip_held 12 (by assumption) rfl (by kernel_rfl) (by kernel_rfl) (by kernel_rfl) (fun _ _ _ h => h) (by kernel_rfl) ?_
              simp only [Act.put, List.setIfInBounds_toArray, List.set_cons_zero, List.set_cons_succ]
              refine skip_held 13 (by assumption) rfl (by kernel_rfl) (by kernel_rfl) (by kernel_rfl) (fun _ _ _ h => h) (by kernel_rfl) ?_
              simp only [Act.put, List.setIfInBounds_toArray, List.set_cons_zero, List.set_cons_succ]
              refine skip_held 14 (by assumption) rfl (by kernel_rfl) (by kernel_rfl) (by kernel_rfl) (fun _ _ _ h => h) (by kernel_rfl) ?_
              simp only [Act.put, List.setIfInBounds_toArray, List.set_cons_zero, List.set_cons_succ]
              refine skip_held 15 (by assumption) rfl (by kernel_rfl) (by kernel_rfl) (by kernel_rfl) (fun _ _ _ h => h) (by kernel_rfl) ?_
              simp only [Act.put, List.setIfInBounds_toArray, List.set_cons_zero, List.set_cons_succ]
              refine skip_held 16 (by assumption) rfl (by kernel_rfl) (by kernel_rfl) (by kernel_rfl) (fun _ _ _ h => h) (by kernel_rfl) ?_
              simp only [Act.put, List.setIfInBounds_toArray, List.set_cons_zero, List.set_cons_succ]
              refine skip_held 17 (by assumption) rfl (by kernel_rfl) (by kernel_rfl) (by kernel_rfl) (fun _ _ _ h => h) (by kernel_rfl) ?_
              simp only [Act.put, List.setIfInBounds_toArray, List.set_cons_zero, List.set_cons_succ]
              refine take_held 18 (by assumption) rfl (by kernel_rfl) (by kernel_rfl) (by kernel_rfl) (fun _ _ _ h => h) (by kernel_rfl) (v := ?v110) ?y110 ?r110
              case y110 => (intro u hu; go_simp; try rfl)
              simp only [Act.put, List.setIfInBounds_toArray, List.set_cons_zero, List.set_cons_succ]
              refine take_held 19 (by assumption) rfl (by kernel_rfl) (by kernel_rfl) (by kernel_rfl) (fun _ _ _ h => h) (by kernel_rfl) (v := ?v111) ?y111 ?r111
              case y111 => (intro u hu; go_simp; try rfl)
              simp only [Act.put, List.setIfInBounds_toArray, List.set_cons_zero, List.set_cons_succ]
              refine skip_held 20 (by assumption) rfl (by kernel_rfl) (by kernel_rfl) (by kernel_rfl) (fun _ _ _ h => h) (by kernel_rfl) ?_
              simp only [Act.put, List.setIfInBounds_toArray, List.set_cons_zero, List.set_cons_succ]
              refine skip_held 21 (by assumption) rfl (by kernel_rfl) (by kernel_rfl) (by kernel_rfl) (fun _ _ _ h => h) (by kernel_rfl) ?_
              simp only [Act.put, List.setIfInBounds_toArray, List.set_cons_zero, List.set_cons_succ]
              refine skip_held 22 (by assumption) rfl (by kernel_rfl) (by kernel_rfl) (by kernel_rfl) (fun _ _ _ h => h) (by kernel_rfl) ?_
              simp only [Act.put, List.setIfInBounds_toArray, List.set_cons_zero, List.set_cons_succ]
              refine skip_held 23 (by assumption) rfl (by kernel_rfl) (by kernel_rfl) (by kernel_rfl) (fun _ _ _ h => h) (by kernel_rfl) ?_
              simp only [Act.put, List.setIfInBounds_toArray, List.set_cons_zero, List.set_cons_succ]
              refine skip_held 24 (by assumption) rfl (by kernel_rfl) (by kernel_rfl) (by kernel_rfl) (fun _ _ _ h => h) (by kernel_rfl) ?_
              simp only [Act.put, List.setIfInBounds_toArray, List.set_cons_zero, List.set_cons_succ]
              refine skip_held 25 (by assumption) rfl (by kernel_rfl) (by kernel_rfl) (by kernel_rfl) (fun _ _ _ h => h) (by kernel_rfl) ?_
              simp only [Act.put, List.setIfInBounds_toArray, List.set_cons_zero, List.set_cons_succ]
              refine skip_held 26 (by assumption) rfl (by kernel_rfl) (by kernel_rfl) (by kernel_rfl) (fun _ _ _ h => h) (by kernel_rfl) ?_
              simp only [Act.put, List.setIfInBounds_toArray, List.set_cons_zero, List.set_cons_succ]
              refine take_held 27 (by assumption) rfl (by kernel_rfl) (by kernel_rfl) (by kernel_rfl) (fun _ _ _ h => h) (by kernel_rfl) (v := ?v112) ?y112 ?r112
              case y112 => (intro u hu; go_simp; try rfl)
              simp only [Act.put, List.setIfInBounds_toArray, List.set_cons_zero, List.set_cons_succ]
              refine take_held 28 (by assumption) rfl (by kernel_rfl) (by kernel_rfl) (by kernel_rfl) (fun _ _ _ h => h) (by kernel_rfl) (v := ?v113) ?y113 ?r113
              case y113 => (intro u hu; go_simp; try rfl)
              simp only [Act.put, List.setIfInBounds_toArray, List.set_cons_zero, List.set_cons_succ]
              refine skip_held 29 (by assumption) rfl (by kernel_rfl) (by kernel_rfl) (by kernel_rfl) (fun _ _ _ h => h) (by kernel_rfl) ?_
              simp only [Act.put, List.setIfInBounds_toArray, List.set_cons_zero, List.set_cons_succ]
              refine skip_held 30 (by assumption) rfl (by kernel_rfl) (by kernel_rfl) (by kernel_rfl) (fun _ _ _ h => h) (by kernel_rfl) ?_
              simp only [Act.put, List.setIfInBounds_toArray, List.set_cons_zero, List.set_cons_succ]
              refine skip_held 31 (by assumption) rfl (by kernel_rfl) (by kernel_rfl) (by kernel_rfl) (fun _ _ _ h => h) (by kernel_rfl) ?_
              simp only [Act.put, List.setIfInBounds_toArray, List.set_cons_zero, List.set_cons_succ]
              refine skip_held 32 (by assumption) rfl (by kernel_rfl) (by kernel_rfl) (by kernel_rfl) (fun _ _ _ h => h) (by kernel_rfl) ?_
              simp only [Act.put, List.setIfInBounds_toArray, List.set_cons_zero, List.set_cons_succ]
              refine skip_held 33 (by assumption) rfl (by kernel_rfl) (by kernel_rfl) (by kernel_rfl) (fun _ _ _ h => h) (by kernel_rfl) ?_
              simp only [Act.put, List.setIfInBounds_toArray, List.set_cons_zero, List.set_cons_succ]
              refine skip_held 34 (by assumption) rfl (by kernel_rfl) (by kernel_rfl) (by kernel_rfl) (fun _ _ _ h => h) (by kernel_rfl) ?_
              simp only [Act.put, List.setIfInBounds_toArray, List.set_cons_zero, List.set_cons_succ]
              refine skip_held 35 (by assumption) rfl (by kernel_rfl) (by kernel_rfl) (by kernel_rfl) (fun _ _ _ h => h) (by kernel_rfl) ?_
              simp only [Act.put, List.setIfInBounds_toArray, List.set_cons_zero, List.set_cons_succ]
              refine skip_held 36 (by assumption) rfl (by kernel_rfl) (by kernel_rfl) (by kernel_rfl) (fun _ _ _ h => h) (by kernel_rfl) ?_
              simp only [Act.put, List.setIfInBounds_toArray, List.set_cons_zero, List.set_cons_succ]
              refine take_held 37 (by assumption) rfl (by kernel_rfl) (by kernel_rfl) (by kernel_rfl) (fun _ _ _ h => h) (by kernel_rfl) (v := ?v114) ?y114 ?r114
              case y114 => (intro u hu; go_simp; try rfl)
              simp only [Act.put, List.setIfInBounds_toArray, List.set_cons_zero, List.set_cons_succ]
              refine done_held (by kernel_rfl) ?_ _
              go_wp2
              go_ret
              exact ⟨_, rfl, congrArg Value.bool HT.out.symm, bcat B D5 (Nat.le_refl _)⟩
            · skip
              refine take_held 7 (by assumption) rfl (by kernel_rfl) (by kernel_rfl) (by kernel_rfl) (fun _ _ _ h => h) (by kernel_rfl) (v := ?v115) ?y115 ?r115
              case y115 => (intro u hu; go_simp; try rfl)
              simp only [Act.put, List.setIfInBounds_toArray, List.set_cons_zero, List.set_cons_succ]
              refine take_held 8 (by assumption) rfl (by kernel_rfl) (by kernel_rfl) (by kernel_rfl) (fun _ _ _ h => h) (by kernel_rfl) (v := ?v116) ?y116 ?r116
              case y116 => (intro u hu; go_simp; try rfl)
              simp only [Act.put, List.setIfInBounds_toArray, List.set_cons_zero, List.set_cons_succ]
              refine take_held 9 (by assumption) rfl (by kernel_rfl) (by kernel_rfl) (by kernel_rfl) (fun _ _ _ h => h) (by kernel_rfl) (v := ?v117) ?y117 ?r117
              case y117 => (intro u hu; go_simp; try rfl)
              simp only [Act.put, List.setIfInBounds_toArray, List.set_cons_zero, List.set_cons_succ]
              refine take_held 10 (by assumption) rfl (by kernel_rfl) (by kernel_rfl) (by kernel_rfl) (fun _ _ _ h => h) (by kernel_rfl) (v := ?v118) ?y118 ?r118
              case y118 => (intro u hu; have zz0 := z4 u hu; go_simp; try rfl)
              simp only [Act.put, List.setIfInBounds_toArray, List.set_cons_zero, List.set_cons_succ]
              refine take_held 11 (by assumption) rfl (by kernel_rfl) (by kernel_rfl) (by kernel_rfl) (fun _ _ _ h => h) (by kernel_rfl) (v := ?v119) ?y119 ?r119
              case y119 => (intro u hu; go_simp; try rfl)
              simp only [Act.put, List.setIfInBounds_toArray, List.set_cons_zero, List.set_cons_succ]
              refine take_held 12 (by assumption) rfl (by kernel_rfl) (by kernel_rfl) (by kernel_rfl) (fun _ _ _ h => h) (by kernel_rfl) (v := ?v120) ?y120 ?r120
              case y120 => (intro u hu; have zz0 := z4 u hu; go_simp; try rfl)
              simp only [Act.put, List.setIfInBounds_toArray, List.set_cons_zero, List.set_cons_succ]
              refine take_held 13 (by assumption) rfl (by kernel_rfl) (by kernel_rfl) (by kernel_rfl) (fun _ _ _ h => h) (by kernel_rfl) (v := ?v121) ?y121 ?r121
              case y121 => (intro u hu; go_simp; try rfl)
              simp only [Act.put, List.setIfInBounds_toArray, List.set_cons_zero, List.set_cons_succ]
              refine take_held 14 (by assumption) rfl (by kernel_rfl) (by kernel_rfl) (by kernel_rfl) (fun _ _ _ h => h) (by kernel_rfl) (v := ?v122) ?y122 ?r122
              case y122 => (intro u hu; go_simp; try rfl)
              simp only [Act.put, List.setIfInBounds_toArray, List.set_cons_zero, List.set_cons_succ]
              refine take_held 15 (by assumption) rfl (by kernel_rfl) (by kernel_rfl) (by kernel_rfl) (fun _ _ _ h => h) (by kernel_rfl) (v := .agg #[.int .i64 x, .int .i64 y]) ?y123 ?r123
              case y123 => (intro u hu; exact run_load_op 39 _ rfl (p.add (k * 2)) _ rfl (HX.out u hu) (aggCell u) infoCell2)
              simp only [Act.put, List.setIfInBounds_toArray, List.set_cons_zero, List.set_cons_succ]
              refine wpAnyH_ready (rs := [16]) (by kernel_rfl) (by simp) (AllReadyH.cons ((nth_eq _ 16).trans rfl) ?_ AllReadyH.nil)
              intro K' hK
              refine call_in hK (by kernel_rfl) 34 #[.slice (some p) n2 cap2, .agg #[.int .i64 x, .int .i64 y]] (by go_simp) _ (c2 _ (bcat B D5 (Nat.le_refl _))) ?_
              rintro v w6 ⟨rfl, b6⟩
              have D6 := bcat D5 b6 (Nat.le_refl _)
              have hS6 : IH w6 := by rw [hIH]; exact D6
              refine ⟨hS6, ?_⟩
              simp only [Act.put, List.setIfInBounds_toArray, List.set_cons_zero, List.set_cons_succ]
              by_cases g1 : m1 ≤ 1
              rotate_left
              · have HT : Hid (R = false) := HBad.out (fun q => g1 (HG2.out q).2.1)
                have g1i : (1 : Int) < (m1 : Int) := by omega
                refine take_held 17 (by assumption) rfl (by kernel_rfl) (by kernel_rfl) (by kernel_rfl) (fun _ _ _ h => h) (by kernel_rfl) (v := .bool true) ?y124 ?r124
                case y124 => (intro u hu; go_simp; try simp [g1i]; try omega)
                simp only [Act.put, List.setIfInBounds_toArray, List.set_cons_zero, List.set_cons_succ]
                refine take_held 18 (by assumption) rfl (by kernel_rfl) (by kernel_rfl) (by kernel_rfl) (fun _ _ _ h => h) (by kernel_rfl) (v := ?v125) ?y125 ?r125
                case y125 => (intro u hu; go_simp; try rfl)
                simp only [Act.put, List.setIfInBounds_toArray, List.set_cons_zero, List.set_cons_succ]
                refine take_held 19 (by assumption) rfl (by kernel_rfl) (by kernel_rfl) (by kernel_rfl) (fun _ _ _ h => h) (by kernel_rfl) (v := ?v126) ?y126 ?r126
                case y126 => (intro u hu; go_simp; try rfl)
                simp only [Act.put, List.setIfInBounds_toArray, List.set_cons_zero, List.set_cons_succ]
                refine skip_held 20 (by assumption) rfl (by kernel_rfl) (by kernel_rfl) (by kernel_rfl) (fun _ _ _ h => h) (by kernel_rfl) ?_
                simp only [Act.put, List.setIfInBounds_toArray, List.set_cons_zero, List.set_cons_succ]
                refine skip_held 21 (by assumption) rfl (by kernel_rfl) (by kernel_rfl) (by kernel_rfl) (fun _ _ _ h => h) (by kernel_rfl) ?_
                simp only [Act.put, List.setIfInBounds_toArray, List.set_cons_zero, List.set_cons_succ]
                refine skip_held 22 (by assumption) rfl (by kernel_rfl) (by kernel_rfl) (by kernel_rfl) (fun _ _ _ h => h) (by kernel_rfl) ?_
                simp only [Act.put, List.setIfInBounds_toArray, List.set_cons_zero, List.set_cons_succ]
                refine skip_held 23 (by assumption) rfl (by kernel_rfl) (by kernel_rfl) (by kernel_rfl) (fun _ _ _ h => h) (by kernel_rfl) ?_
                simp only [Act.put, List.setIfInBounds_toArray, List.set_cons_zero, List.set_cons_succ]
                refine skip_held 24 (by assumption) rfl (by kernel_rfl) (by kernel_rfl) (by kernel_rfl) (fun _ _ _ h => h) (by kernel_rfl) ?_
                simp only [Act.put, List.setIfInBounds_toArray, List.set_cons_zero, List.set_cons_succ]
                refine skip_held 25 (by assumption) rfl (by kernel_rfl) (by kernel_rfl) (by kernel_rfl) (fun _ _ _ h => h) (by kernel_rfl) ?_
                simp only [Act.put, List.setIfInBounds_toArray, List.set_cons_zero, List.set_cons_succ]
                refine skip_held 26 (by assumption) rfl (by kernel_rfl) (by kernel_rfl) (by kernel_rfl) (fun _ _ _ h => h) (by kernel_rfl) ?_
                simp only [Act.put, List.setIfInBounds_toArray, List.set_cons_zero, List.set_cons_succ]
                refine take_held 27 (by assumption) rfl (by kernel_rfl) (by kernel_rfl) (by kernel_rfl) (fun _ _ _ h => h) (by kernel_rfl) (v := ?v127) ?y127 ?r127
                case y127 => (intro u hu; go_simp; try rfl)
                simp only [Act.put, List.setIfInBounds_toArray, List.set_cons_zero, List.set_cons_succ]
                refine take_held 28 (by assumption) rfl (by kernel_rfl) (by kernel_rfl) (by kernel_rfl) (fun _ _ _ h => h) (by kernel_rfl) (v := ?v128) ?y128 ?r128
                case y128 => (intro u hu; go_simp; try rfl)
                simp only [Act.put, List.setIfInBounds_toArray, List.set_cons_zero, List.set_cons_succ]
                refine skip_held 29 (by assumption) rfl (by kernel_rfl) (by kernel_rfl) (by kernel_rfl) (fun _ _ _ h => h) (by kernel_rfl) ?_
                simp only [Act.put, List.setIfInBounds_toArray, List.set_cons_zero, List.set_cons_succ]
                refine skip_held 30 (by assumption) rfl (by kernel_rfl) (by kernel_rfl) (by kernel_rfl) (fun _ _ _ h => h) (by kernel_rfl) ?_
                simp only [Act.put, List.setIfInBounds_toArray, List.set_cons_zero, List.set_cons_succ]
                refine skip_held 31 (by assumption) rfl (by kernel_rfl) (by kernel_rfl) (by kernel_rfl) (fun _ _ _ h => h) (by kernel_rfl) ?_
                simp only [Act.put, List.setIfInBounds_toArray, List.set_cons_zero, List.set_cons_succ]
                refine skip_held 32 (by assumption) rfl (by kernel_rfl) (by kernel_rfl) (by kernel_rfl) (fun _ _ _ h => h) (by kernel_rfl) ?_
                simp only [Act.put, List.setIfInBounds_toArray, List.set_cons_zero, List.set_cons_succ]
                refine skip_held 33 (by assumption) rfl (by kernel_rfl) (by kernel_rfl) (by kernel_rfl) (fun _ _ _ h => h) (by kernel_rfl) ?_
                simp only [Act.put, List.setIfInBounds_toArray, List.set_cons_zero, List.set_cons_succ]
                refine skip_held 34 (by assumption) rfl (by kernel_rfl) (by kernel_rfl) (by kernel_rfl) (fun _ _ _ h => h) (by kernel_rfl) ?_
                simp only [Act.put, List.setIfInBounds_toArray, List.set_cons_zero, List.set_cons_succ]
                refine skip_held 35 (by assumption) rfl (by kernel_rfl) (by kernel_rfl) (by kernel_rfl) (fun _ _ _ h => h) (by kernel_rfl) ?_
                simp only [Act.put, List.setIfInBounds_toArray, List.set_cons_zero, List.set_cons_succ]
                refine skip_held 36 (by assumption) rfl (by kernel_rfl) (by kernel_rfl) (by kernel_rfl) (fun _ _ _ h => h) (by kernel_rfl) ?_
                simp only [Act.put, List.setIfInBounds_toArray, List.set_cons_zero, List.set_cons_succ]
                refine take_held 37 (by assumption) rfl (by kernel_rfl) (by kernel_rfl) (by kernel_rfl) (fun _ _ _ h => h) (by kernel_rfl) (v := ?v129) ?y129 ?r129
                case y129 => (intro u hu; go_simp; try rfl)
                simp only [Act.put, List.setIfInBounds_toArray, List.set_cons_zero, List.set_cons_succ]
                refine done_held (by kernel_rfl) ?_ _
                go_wp2
                go_ret
                exact ⟨_, rfl, congrArg Value.bool HT.out.symm, bcat B D6 (Nat.le_refl _)⟩
              have g1i : ¬ (1 : Int) < (m1 : Int) := by omega
              refine take_held 17 (by assumption) rfl (by kernel_rfl) (by kernel_rfl) (by kernel_rfl) (fun _ _ _ h => h) (by kernel_rfl) (v := .bool false) ?y130 ?r130
              case y130 => (intro u hu; go_simp; try simp [g1i]; try omega)
              simp only [Act.put, List.setIfInBounds_toArray, List.set_cons_zero, List.set_cons_succ]
              refine take_held 18 (by assumption) rfl (by kernel_rfl) (by kernel_rfl) (by kernel_rfl) (fun _ _ _ h => h) (by kernel_rfl) (v := ?v131) ?y131 ?r131
              case y131 => (intro u hu; go_simp; try rfl)
              simp only [Act.put, List.setIfInBounds_toArray, List.set_cons_zero, List.set_cons_succ]
              refine take_held 19 (by assumption) rfl (by kernel_rfl) (by kernel_rfl) (by kernel_rfl) (fun _ _ _ h => h) (by kernel_rfl) (v := ?v132) ?y132 ?r132
              case y132 => (intro u hu; go_simp; try rfl)
              simp only [Act.put, List.setIfInBounds_toArray, List.set_cons_zero, List.set_cons_succ]
              refine take_held 20 (by assumption) rfl (by kernel_rfl) (by kernel_rfl) (by kernel_rfl) (fun _ _ _ h => h) (by kernel_rfl) (v := .agg #[.int .i64 c.W, .int .i64 c.H, .int .i64 c.height, .slice a1 n1 cap1, .slice (some p) n2 cap2, .slice a3 n3 cap3, vs, .int .i64 c.unit, .int .i64 c.accel, .int .i64 c.speed, .int .i64 c.turn, .int .i64 c.hoist, .int .i64 c.queue, .int .i64 c.resend, .int .i64 c.budget, .bool c.back]) ?y133 ?r133
              case y133 => (intro u hu; exact run_load_op 26 _ rfl ⟨w.heap.size, 0, none⟩ _ rfl (HCF.out u hu) (aggConf u) info_conf)
              simp only [Act.put, List.setIfInBounds_toArray, List.set_cons_zero, List.set_cons_succ]
              refine take_held 21 (by assumption) rfl (by kernel_rfl) (by kernel_rfl) (by kernel_rfl) (fun _ _ _ h => h) (by kernel_rfl) (v := ?v134) ?y134 ?r134
              case y134 => (intro u hu; go_simp; try rfl)
              simp only [Act.put, List.setIfInBounds_toArray, List.set_cons_zero, List.set_cons_succ]
              refine take_held 22 (by assumption) rfl (by kernel_rfl) (by kernel_rfl) (by kernel_rfl) (fun _ _ _ h => h) (by kernel_rfl) (v := ?v135) ?y135 ?r135
              case y135 => (intro u hu; have zz0 := z4 u hu; go_simp; try rfl)
              simp only [Act.put, List.setIfInBounds_toArray, List.set_cons_zero, List.set_cons_succ]
              refine take_held 23 (by assumption) rfl (by kernel_rfl) (by kernel_rfl) (by kernel_rfl) (fun _ _ _ h => h) (by kernel_rfl) (v := ?v136) ?y136 ?r136
              case y136 => (intro u hu; go_simp; try rfl)
              simp only [Act.put, List.setIfInBounds_toArray, List.set_cons_zero, List.set_cons_succ]
              refine take_held 24 (by assumption) rfl (by kernel_rfl) (by kernel_rfl) (by kernel_rfl) (fun _ _ _ h => h) (by kernel_rfl) (v := ?v137) ?y137 ?r137
              case y137 => (intro u hu; go_simp; try rfl)
              simp only [Act.put, List.setIfInBounds_toArray, List.set_cons_zero, List.set_cons_succ]
              refine take_held 25 (by assumption) rfl (by kernel_rfl) (by kernel_rfl) (by kernel_rfl) (fun _ _ _ h => h) (by kernel_rfl) (v := .agg #[.int .i64 x, .int .i64 y]) ?y138 ?r138
              case y138 => (intro u hu; exact run_load_op 39 _ rfl (p.add (k * 2)) _ rfl (HX.out u hu) (aggCell u) infoCell2)
              simp only [Act.put, List.setIfInBounds_toArray, List.set_cons_zero, List.set_cons_succ]
              refine wpAnyH_ready (rs := [26]) (by kernel_rfl) (by simp) (AllReadyH.cons ((nth_eq _ 26).trans rfl) ?_ AllReadyH.nil)
              intro K' hK
              refine call_in hK (by kernel_rfl) 35 #[.agg #[.int .i64 c.W, .int .i64 c.H, .int .i64 c.height, .slice a1 n1 cap1, .slice (some p) n2 cap2, .slice a3 n3 cap3, vs, .int .i64 c.unit, .int .i64 c.accel, .int .i64 c.speed, .int .i64 c.turn, .int .i64 c.hoist, .int .i64 c.queue, .int .i64 c.resend, .int .i64 c.budget, .bool c.back], .agg #[.int .i64 x, .int .i64 y]] (by go_simp) _ (c3 _ (bcat B D6 (Nat.le_refl _))) ?_
              rintro v w7 ⟨rfl, b7⟩
              have D7 := bcat D6 b7 (Nat.le_refl _)
              have hS7 : IH w7 := by rw [hIH]; exact D7
              refine ⟨hS7, ?_⟩
              simp only [Act.put, List.setIfInBounds_toArray, List.set_cons_zero, List.set_cons_succ]
              cases hb
              rotate_left
              · have HT : Hid (R = false) := HBad.out (fun q => by have := (HG2.out q).2.2.1; cases this)
                refine take_held 27 (by assumption) rfl (by kernel_rfl) (by kernel_rfl) (by kernel_rfl) (fun _ _ _ h => h) (by kernel_rfl) (v := ?v139) ?y139 ?r139
                case y139 => (intro u hu; go_simp; try rfl)
                simp only [Act.put, List.setIfInBounds_toArray, List.set_cons_zero, List.set_cons_succ]
                refine take_held 28 (by assumption) rfl (by kernel_rfl) (by kernel_rfl) (by kernel_rfl) (fun _ _ _ h => h) (by kernel_rfl) (v := ?v140) ?y140 ?r140
                case y140 => (intro u hu; go_simp; try rfl)
                simp only [Act.put, List.setIfInBounds_toArray, List.set_cons_zero, List.set_cons_succ]
                refine skip_held 29 (by assumption) rfl (by kernel_rfl) (by kernel_rfl) (by kernel_rfl) (fun _ _ _ h => h) (by kernel_rfl) ?_
                simp only [Act.put, List.setIfInBounds_toArray, List.set_cons_zero, List.set_cons_succ]
                refine skip_held 30 (by assumption) rfl (by kernel_rfl) (by kernel_rfl) (by kernel_rfl) (fun _ _ _ h => h) (by kernel_rfl) ?_
                simp only [Act.put, List.setIfInBounds_toArray, List.set_cons_zero, List.set_cons_succ]
                refine skip_held 31 (by assumption) rfl (by kernel_rfl) (by kernel_rfl) (by kernel_rfl) (fun _ _ _ h => h) (by kernel_rfl) ?_
                simp only [Act.put, List.setIfInBounds_toArray, List.set_cons_zero, List.set_cons_succ]
                refine skip_held 32 (by assumption) rfl (by kernel_rfl) (by kernel_rfl) (by kernel_rfl) (fun _ _ _ h => h) (by kernel_rfl) ?_
                simp only [Act.put, List.setIfInBounds_toArray, List.set_cons_zero, List.set_cons_succ]
                refine skip_held 33 (by assumption) rfl (by kernel_rfl) (by kernel_rfl) (by kernel_rfl) (fun _ _ _ h => h) (by kernel_rfl) ?_
                simp only [Act.put, List.setIfInBounds_toArray, List.set_cons_zero, List.set_cons_succ]
                refine skip_held 34 (by assumption) rfl (by kernel_rfl) (by kernel_rfl) (by kernel_rfl) (fun _ _ _ h => h) (by kernel_rfl) ?_
                simp only [Act.put, List.setIfInBounds_toArray, List.set_cons_zero, List.set_cons_succ]
                refine skip_held 35 (by assumption) rfl (by kernel_rfl) (by kernel_rfl) (by kernel_rfl) (fun _ _ _ h => h) (by kernel_rfl) ?_
                simp only [Act.put, List.setIfInBounds_toArray, List.set_cons_zero, List.set_cons_succ]
                refine skip_held 36 (by assumption) rfl (by kernel_rfl) (by kernel_rfl) (by kernel_rfl) (fun _ _ _ h => h) (by kernel_rfl) ?_
                simp only [Act.put, List.setIfInBounds_toArray, List.set_cons_zero, List.set_cons_succ]
                refine take_held 37 (by assumption) rfl (by kernel_rfl) (by kernel_rfl) (by kernel_rfl) (fun _ _ _ h => h) (by kernel_rfl) (v := ?v141) ?y141 ?r141
                case y141 => (intro u hu; go_simp; try rfl)
                simp only [Act.put, List.setIfInBounds_toArray, List.set_cons_zero, List.set_cons_succ]
                refine done_held (by kernel_rfl) ?_ _
                go_wp2
                go_ret
                exact ⟨_, rfl, congrArg Value.bool HT.out.symm, bcat B D7 (Nat.le_refl _)⟩
              refine take_held 27 (by assumption) rfl (by kernel_rfl) (by kernel_rfl) (by kernel_rfl) (fun _ _ _ h => h) (by kernel_rfl) (v := ?v142) ?y142 ?r142
              case y142 => (intro u hu; go_simp; try rfl)
              simp only [Act.put, List.setIfInBounds_toArray, List.set_cons_zero, List.set_cons_succ]
              refine take_held 28 (by assumption) rfl (by kernel_rfl) (by kernel_rfl) (by kernel_rfl) (fun _ _ _ h => h) (by kernel_rfl) (v := ?v143) ?y143 ?r143
              case y143 => (intro u hu; go_simp; try rfl)
              simp only [Act.put, List.setIfInBounds_toArray, List.set_cons_zero, List.set_cons_succ]
              refine take_held 29 (by assumption) rfl (by kernel_rfl) (by kernel_rfl) (by kernel_rfl) (fun _ _ _ h => h) (by kernel_rfl) (v := .agg #[.int .i64 c.W, .int .i64 c.H, .int .i64 c.height, .slice a1 n1 cap1, .slice (some p) n2 cap2, .slice a3 n3 cap3, vs, .int .i64 c.unit, .int .i64 c.accel, .int .i64 c.speed, .int .i64 c.turn, .int .i64 c.hoist, .int .i64 c.queue, .int .i64 c.resend, .int .i64 c.budget, .bool c.back]) ?y144 ?r144
              case y144 => (intro u hu; exact run_load_op 26 _ rfl ⟨w.heap.size, 0, none⟩ _ rfl (HCF.out u hu) (aggConf u) info_conf)
              simp only [Act.put, List.setIfInBounds_toArray, List.set_cons_zero, List.set_cons_succ]
              refine take_held 30 (by assumption) rfl (by kernel_rfl) (by kernel_rfl) (by kernel_rfl) (fun _ _ _ h => h) (by kernel_rfl) (v := ?v145) ?y145 ?r145
              case y145 => (intro u hu; go_simp; try rfl)
              simp only [Act.put, List.setIfInBounds_toArray, List.set_cons_zero, List.set_cons_succ]
              refine take_held 31 (by assumption) rfl (by kernel_rfl) (by kernel_rfl) (by kernel_rfl) (fun _ _ _ h => h) (by kernel_rfl) (v := ?v146) ?y146 ?r146
              case y146 => (intro u hu; have zz0 := z4 u hu; go_simp; try rfl)
              simp only [Act.put, List.setIfInBounds_toArray, List.set_cons_zero, List.set_cons_succ]
              refine take_held 32 (by assumption) rfl (by kernel_rfl) (by kernel_rfl) (by kernel_rfl) (fun _ _ _ h => h) (by kernel_rfl) (v := ?v147) ?y147 ?r147
              case y147 => (intro u hu; go_simp; try rfl)
              simp only [Act.put, List.setIfInBounds_toArray, List.set_cons_zero, List.set_cons_succ]
              refine take_held 33 (by assumption) rfl (by kernel_rfl) (by kernel_rfl) (by kernel_rfl) (fun _ _ _ h => h) (by kernel_rfl) (v := ?v148) ?y148 ?r148
              case y148 => (intro u hu; go_simp; try rfl)
              simp only [Act.put, List.setIfInBounds_toArray, List.set_cons_zero, List.set_cons_succ]
              refine take_held 34 (by assumption) rfl (by kernel_rfl) (by kernel_rfl) (by kernel_rfl) (fun _ _ _ h => h) (by kernel_rfl) (v := .agg #[.int .i64 x, .int .i64 y]) ?y149 ?r149
              case y149 => (intro u hu; exact run_load_op 39 _ rfl (p.add (k * 2)) _ rfl (HX.out u hu) (aggCell u) infoCell2)
              simp only [Act.put, List.setIfInBounds_toArray, List.set_cons_zero, List.set_cons_succ]
              refine wpAnyH_ready (rs := [35]) (by kernel_rfl) (by simp) (AllReadyH.cons ((nth_eq _ 35).trans rfl) ?_ AllReadyH.nil)
              intro K' hK
              refine call_in hK (by kernel_rfl) 36 #[.agg #[.int .i64 c.W, .int .i64 c.H, .int .i64 c.height, .slice a1 n1 cap1, .slice (some p) n2 cap2, .slice a3 n3 cap3, vs, .int .i64 c.unit, .int .i64 c.accel, .int .i64 c.speed, .int .i64 c.turn, .int .i64 c.hoist, .int .i64 c.queue, .int .i64 c.resend, .int .i64 c.budget, .bool c.back], .agg #[.int .i64 x, .int .i64 y]] (by go_simp) _ (c4 _ (bcat B D7 (Nat.le_refl _))) ?_
              rintro v w8 ⟨rfl, b8⟩
              have D8 := bcat D7 b8 (Nat.le_refl _)
              have hS8 : IH w8 := by rw [hIH]; exact D8
              refine ⟨hS8, ?_⟩
              simp only [Act.put, List.setIfInBounds_toArray, List.set_cons_zero, List.set_cons_succ]
              cases eb
              · have HT : Hid (R = false) := HBad.out (fun q => by have := (HG2.out q).2.2.2; cases this)
                refine take_held 36 (by assumption) rfl (by kernel_rfl) (by kernel_rfl) (by kernel_rfl) (fun _ _ _ h => h) (by kernel_rfl) (v := ?v150) ?y150 ?r150
                case y150 => (intro u hu; go_simp; try rfl)
                simp only [Act.put, List.setIfInBounds_toArray, List.set_cons_zero, List.set_cons_succ]
                refine take_held 37 (by assumption) rfl (by kernel_rfl) (by kernel_rfl) (by kernel_rfl) (fun _ _ _ h => h) (by kernel_rfl) (v := ?v151) ?y151 ?r151
                case y151 => (intro u hu; go_simp; try rfl)
                simp only [Act.put, List.setIfInBounds_toArray, List.set_cons_zero, List.set_cons_succ]
                refine done_held (by kernel_rfl) ?_ _
                go_wp2
                go_ret
                exact ⟨_, rfl, congrArg Value.bool HT.out.symm, bcat B D8 (Nat.le_refl _)⟩
              · skip
                refine take_held 36 (by assumption) rfl (by kernel_rfl) (by kernel_rfl) (by kernel_rfl) (fun _ _ _ h => h) (by kernel_rfl) (v := ?v152) ?y152 ?r152
                case y152 => (intro u hu; go_simp; try rfl)
                simp only [Act.put, List.setIfInBounds_toArray, List.set_cons_zero, List.set_cons_succ]
                refine take_held 37 (by assumption) rfl (by kernel_rfl) (by kernel_rfl) (by kernel_rfl) (fun _ _ _ h => h) (by kernel_rfl) (v := ?v153) ?y153 ?r153
                case y153 => (intro u hu; go_simp; try rfl)
                simp only [Act.put, List.setIfInBounds_toArray, List.set_cons_zero, List.set_cons_succ]
                refine done_held (by kernel_rfl) ?_ _
                have HQ7 : Hid (One w #[.int .i64 c.W, .int .i64 c.H, .int .i64 c.height, .slice a1 n1 cap1, .slice (some p) n2 cap2, .slice a3 n3 cap3, vs, .int .i64 c.unit, .int .i64 c.accel, .int .i64 c.speed, .int .i64 c.turn, .int .i64 c.hoist, .int .i64 c.queue, .int .i64 c.resend, .int .i64 c.budget, .bool c.back] w8) := HQ.out.go D8
                have HG7 : Hid (∀ b ∈ c.ports.take (k + 1), good2 c b) := HNx.out (HG1.out rfl g1 rfl rfl)
                go_wp2
                go_roundw
                case rel => exact ⟨k + 1, by omega, by go_num, HQ7, HG7⟩
                case measure => simp [intOf]; omega
          · obtain rfl : n2 = k := by omega
            have HA2 : Hid (∀ b ∈ c.ports, good2 c b) := by
              have := HG.out
              rw [← H2.out, List.take_length] at this
              exact this
            clear HG hk hlt
            have HN0 : Hid (Nd w c #[.int .i64 c.W, .int .i64 c.H, .int .i64 c.height, .slice a1 n1 cap1, .slice a2 n2 cap2, .slice a3 n3 cap3, vs, .int .i64 c.unit, .int .i64 c.accel, .int .i64 c.speed, .int .i64 c.turn, .int .i64 c.hoist, .int .i64 c.queue, .int .i64 c.resend, .int .i64 c.budget, .bool c.back] (.slice none 0 0) 0 wr) := ⟨HQ.out, World.ownsRow_nil _ _ _ _, fun r hr => by simp at hr⟩
            go_wp2
            clear k4
            go_loopw [5, 6] (fun v i wq => ∃ k : Nat, k ≤ n3 ∧ i = .int .i64 k ∧ Hid (Nd w c #[.int .i64 c.W, .int .i64 c.H, .int .i64 c.height, .slice a1 n1 cap1, .slice a2 n2 cap2, .slice a3 n3 cap3, vs, .int .i64 c.unit, .int .i64 c.accel, .int .i64 c.speed, .int .i64 c.turn, .int .i64 c.hoist, .int .i64 c.queue, .int .i64 c.resend, .int .i64 c.budget, .bool c.back] v k wq)) (fun _ i _ => n3 - (intOf i).toNat)
            case atStart => exact ⟨0, Nat.zero_le _, rfl, HN0⟩
            case round =>
              clear HQ HN0
              obtain ⟨k, hk, rfl, HN⟩ := hrel
              have k5 : wr.cell? ⟨w.heap.size, 5, none⟩ = some (.slice a3 n3 cap3) := cell_of HN.out.box.a 5
              by_cases hlt : k < n3
              · have hlt' : k < c.robots.length := by rw [H3.out]; exact hlt
                have B := HN.out.box.below
                have eA := HN.out.box.a
                have HBad : Hid (¬ fitsR c (c.robots[k]'hlt') → R = false) := fun h => HR.out ▸ may_r (List.getElem_mem hlt') h
                have HNx : Hid (fitsR c (c.robots[k]'hlt') → ∀ {v' : Value} {W W' : World}, Nd w c #[.int .i64 c.W, .int .i64 c.H, .int .i64 c.height, .slice a1 n1 cap1, .slice a2 n2 cap2, .slice a3 n3 cap3, vs, .int .i64 c.unit, .int .i64 c.accel, .int .i64 c.speed, .int .i64 c.turn, .int .i64 c.hoist, .int .i64 c.queue, .int .i64 c.resend, .int .i64 c.budget, .bool c.back] u5 k W → W'.ownsRow (w.heap.size + 1) 39 2 v' (homeT c k ++ cellsOf (c.robots[k]'hlt')).length (rowL cellL (homeT c k ++ cellsOf (c.robots[k]'hlt'))) → W.grownBy W' u5.ownBlock → Nd w c #[.int .i64 c.W, .int .i64 c.H, .int .i64 c.height, .slice a1 n1 cap1, .slice a2 n2 cap2, .slice a3 n3 cap3, vs, .int .i64 c.unit, .int .i64 c.accel, .int .i64 c.speed, .int .i64 c.turn, .int .i64 c.hoist, .int .i64 c.queue, .int .i64 c.resend, .int .i64 c.budget, .bool c.back] v' (k + 1) W') := fun h _ _ _ q1 q2 q3 => q1.next hlt' h q2 q3
                obtain ⟨p, cs, cap', hv, hpF, hcs, hrd⟩ := (hFr.out wr B).item hlt'
                generalize c.robots[k]'hlt' = qr at *
                obtain ⟨⟨x, y⟩, d⟩ := qr
                obtain rfl := hcs
                rw [H3.out] at hv
                obtain ⟨rfl, rfl⟩ : a3 = some p ∧ cap3 = cap' := by injection hv with h1 h2 h3; exact ⟨h1, h3⟩
                clear hv
                have c1 := cF.out x y d
                obtain ⟨fb, hfb⟩ : ∃ fb, decide (fitsR c ((x, y), d)) = fb := ⟨_, rfl⟩
                have HFB : Hid (decide (fitsR c ((x, y), d)) = fb) := hfb
                rw [hfb] at c1
                clear hfb
                obtain ⟨x2, hx2⟩ : ∃ x2, (second ((x, y), d)).1 = x2 := ⟨_, rfl⟩
                obtain ⟨y2, hy2⟩ : ∃ y2, (second ((x, y), d)).2 = y2 := ⟨_, rfl⟩
                have HE : Hid (cellsOf ((x, y), d) = [(x, y), (x2, y2)]) := by show cellsOf ((x, y), d) = _; unfold cellsOf; rw [← hx2, ← hy2]
                have cC := fun u => cellsR_any x y d u
                rw [hx2, hy2] at cC
                clear hx2 hy2
                go_wp2
                obtain ⟨IH, hIH⟩ : ∃ I : World → Prop, I = Below wr.heap.size wr := ⟨_, rfl⟩
                have kI : ∀ u, IH u → Below wr.heap.size wr u := fun u hu => by rw [hIH] at hu; exact hu
                have hS : IH wr.drew := by rw [hIH]; exact (Below.refl _ _).drew
                have D0 : Below wr.heap.size wr wr.drew := (Below.refl _ _).drew
                have HCF : Hid (∀ u, IH u → ∀ j z, #[.int .i64 c.W, .int .i64 c.H, .int .i64 c.height, .slice a1 n1 cap1, .slice a2 n2 cap2, .slice (some p) n3 cap3, vs, .int .i64 c.unit, .int .i64 c.accel, .int .i64 c.speed, .int .i64 c.turn, .int .i64 c.hoist, .int .i64 c.queue, .int .i64 c.resend, .int .i64 c.budget, .bool c.back][j]? = some z → u.cell? ((⟨w.heap.size, 0, none⟩ : Addr).add j) = some z) := fun u hu => row_below eA (kI u hu)
                have z5 : ∀ u, IH u → u.cell? ⟨w.heap.size, 5, none⟩ = some (.slice (some p) n3 cap3) := fun u hu => cell_below k5 (kI u hu)
                have HX : Hid (∀ u, IH u → ∀ j z, #[Value.int .i64 x, .int .i64 y, .bool d][j]? = some z → u.cell? ((p.add (k * 3)).add j) = some z) := fun u hu j z hj => cell_below (hrd j z hj) (kI u hu)
                clear hrd
                refine start_held (S := IH) 8 rfl (by kernel_rfl) (hS) ?_
                simp only [Array.replicate_succ, Array.replicate_zero, List.push_toArray, List.nil_append, List.cons_append]
                refine take_held 0 (by assumption) rfl (by kernel_rfl) (by kernel_rfl) (by kernel_rfl) (fun _ _ _ h => h) (by kernel_rfl) (v := .agg #[.int .i64 c.W, .int .i64 c.H, .int .i64 c.height, .slice a1 n1 cap1, .slice a2 n2 cap2, .slice (some p) n3 cap3, vs, .int .i64 c.unit, .int .i64 c.accel, .int .i64 c.speed, .int .i64 c.turn, .int .i64 c.hoist, .int .i64 c.queue, .int .i64 c.resend, .int .i64 c.budget, .bool c.back]) ?y154 ?r154
                case y154 => (intro u hu; exact run_load_op 26 _ rfl ⟨w.heap.size, 0, none⟩ _ rfl (HCF.out u hu) (aggConf u) info_conf)
                simp only [Act.put, List.setIfInBounds_toArray, List.set_cons_zero, List.set_cons_succ]
                refine take_held 1 (by assumption) rfl (by kernel_rfl) (by kernel_rfl) (by kernel_rfl) (fun _ _ _ h => h) (by kernel_rfl) (v := ?v155) ?y155 ?r155
                case y155 => (intro u hu; go_simp; try rfl)
                simp only [Act.put, List.setIfInBounds_toArray, List.set_cons_zero, List.set_cons_succ]
                refine take_held 2 (by assumption) rfl (by kernel_rfl) (by kernel_rfl) (by kernel_rfl) (fun _ _ _ h => h) (by kernel_rfl) (v := ?v156) ?y156 ?r156
                case y156 => (intro u hu; have zz0 := z5 u hu; go_simp; try rfl)
                simp only [Act.put, List.setIfInBounds_toArray, List.set_cons_zero, List.set_cons_succ]
                refine take_held 3 (by assumption) rfl (by kernel_rfl) (by kernel_rfl) (by kernel_rfl) (fun _ _ _ h => h) (by kernel_rfl) (v := ?v157) ?y157 ?r157
                case y157 => (intro u hu; go_simp; try rfl)
                simp only [Act.put, List.setIfInBounds_toArray, List.set_cons_zero, List.set_cons_succ]
                refine take_held 4 (by assumption) rfl (by kernel_rfl) (by kernel_rfl) (by kernel_rfl) (fun _ _ _ h => h) (by kernel_rfl) (v := ?v158) ?y158 ?r158
                case y158 => (intro u hu; go_simp; try rfl)
                simp only [Act.put, List.setIfInBounds_toArray, List.set_cons_zero, List.set_cons_succ]
                refine take_held 5 (by assumption) rfl (by kernel_rfl) (by kernel_rfl) (by kernel_rfl) (fun _ _ _ h => h) (by kernel_rfl) (v := .agg #[.int .i64 x, .int .i64 y, .bool d]) ?y159 ?r159
                case y159 => (intro u hu; exact run_load_op 72 _ rfl (p.add (k * 3)) _ rfl (HX.out u hu) (aggPose u) infoPose2)
                simp only [Act.put, List.setIfInBounds_toArray, List.set_cons_zero, List.set_cons_succ]
                refine wpAnyH_ready (rs := [6]) (by kernel_rfl) (by simp) (AllReadyH.cons ((nth_eq _ 6).trans rfl) ?_ AllReadyH.nil)
                intro K' hK
                refine call_in hK (by kernel_rfl) 37 #[.agg #[.int .i64 c.W, .int .i64 c.H, .int .i64 c.height, .slice a1 n1 cap1, .slice a2 n2 cap2, .slice (some p) n3 cap3, vs, .int .i64 c.unit, .int .i64 c.accel, .int .i64 c.speed, .int .i64 c.turn, .int .i64 c.hoist, .int .i64 c.queue, .int .i64 c.resend, .int .i64 c.budget, .bool c.back], .agg #[.int .i64 x, .int .i64 y, .bool d]] (by go_simp) _ (c1 _ (bcat B D0 (Nat.le_refl _))) ?_
                rintro v w5 ⟨rfl, b5⟩
                have D5 := bcat D0 b5 (Nat.le_refl _)
                have hS5 : IH w5 := by rw [hIH]; exact D5
                refine ⟨hS5, ?_⟩
                simp only [Act.put, List.setIfInBounds_toArray, List.set_cons_zero, List.set_cons_succ]
                cases fb
                · have HT : Hid (R = false) := HBad.out (of_decide_eq_false HFB.out)
                  refine take_held 7 (by assumption) rfl (by kernel_rfl) (by kernel_rfl) (by kernel_rfl) (fun _ _ _ h => h) (by kernel_rfl) (v := ?v160) ?y160 ?r160
                  case y160 => (intro u hu; go_simp; try rfl)
                  simp only [Act.put, List.setIfInBounds_toArray, List.set_cons_zero, List.set_cons_succ]
                  refine done_held (by kernel_rfl) ?_ _
                  go_wp2
                  go_ret
                  exact ⟨_, rfl, congrArg Value.bool HT.out.symm, bcat B D5 (Nat.le_refl _)⟩
                · skip
                  refine take_held 7 (by assumption) rfl (by kernel_rfl) (by kernel_rfl) (by kernel_rfl) (fun _ _ _ h => h) (by kernel_rfl) (v := ?v161) ?y161 ?r161
                  case y161 => (intro u hu; go_simp; try rfl)
                  simp only [Act.put, List.setIfInBounds_toArray, List.set_cons_zero, List.set_cons_succ]
                  refine done_held (by kernel_rfl) ?_ _
                  have HN5 : Hid (Nd w c #[.int .i64 c.W, .int .i64 c.H, .int .i64 c.height, .slice a1 n1 cap1, .slice a2 n2 cap2, .slice (some p) n3 cap3, vs, .int .i64 c.unit, .int .i64 c.accel, .int .i64 c.speed, .int .i64 c.turn, .int .i64 c.hoist, .int .i64 c.queue, .int .i64 c.resend, .int .i64 c.budget, .bool c.back] u5 k w5) := HN.out.go D5
                  have y5 := z5 _ hS5
                  have y6 := HX.out _ hS5
                  have hown5 := HN5.out.own
                  have hlen5 : (homeT c k).length ≤ 16 := by rw [homeT_len]; omega
                  clear b5 k5
                  go_wp2_with (first
                    | (refine wpList_load_at rfl 72 (.tmp 130) rfl (p.add (k * 3)) rfl #[.int .i64 x, .int .i64 y, .bool d] y6 (aggPose _) infoPose2 ?_)
                    | (go_at_call 38; refine (cC _).mono ?_; rintro e w6 ⟨r6, rfl, ⟨g6, rfl, hg6, hG6⟩, b6⟩; have HN6 : Hid (Nd w c #[.int .i64 c.W, .int .i64 c.H, .int .i64 c.height, .slice a1 n1 cap1, .slice a2 n2 cap2, .slice (some p) n3 cap3, vs, .int .i64 c.unit, .int .i64 c.accel, .int .i64 c.speed, .int .i64 c.turn, .int .i64 c.hoist, .int .i64 c.queue, .int .i64 c.resend, .int .i64 c.budget, .bool c.back] u5 k w6) := HN5.out.go b6; have own6 := HN6.out.own)
                    | (at_builtin; refine wpList_app kindCell rfl _ _ rfl (w.heap.size + 1) u5 (homeT c k) rfl own6 (fun b => b = g6) _ [(x, y), (x2, y2)] rfl (list_two hG6) (by simp; omega) (by unfold maxLen; simp; omega) (Nat.le_trans (lt_of_heap HN6.out.box.a) (Nat.le_refl _)) ?_; intro v9 w9 own9 g9 at9; rw [← HE.out] at own9; have HN9 : Hid (Nd w c #[.int .i64 c.W, .int .i64 c.H, .int .i64 c.height, .slice a1 n1 cap1, .slice a2 n2 cap2, .slice (some p) n3 cap3, vs, .int .i64 c.unit, .int .i64 c.accel, .int .i64 c.speed, .int .i64 c.turn, .int .i64 c.hoist, .int .i64 c.queue, .int .i64 c.resend, .int .i64 c.budget, .bool c.back] v9 (k + 1) w9) := HNx.out (of_decide_eq_true HFB.out) HN6.out own9 g9))
                  go_roundw
                  case rel => exact ⟨k + 1, by omega, by go_num, HN9⟩
                  case measure => simp [intOf]; omega
              · obtain rfl : n3 = k := by omega
                have HA3 : Hid (∀ r ∈ c.robots, fitsR c r) := by
                  have := HN.out.good
                  rw [← H3.out, List.take_length] at this
                  exact this
                have HEq : Hid (homeT c n3 = homes c) := by
                  show homeT c n3 = homes c
                  unfold homeT homes
                  rw [← H3.out, List.take_length]
                have hown := HN.out.own
                have HQ : Hid (One w #[.int .i64 c.W, .int .i64 c.H, .int .i64 c.height, .slice a1 n1 cap1, .slice a2 n2 cap2, .slice a3 n3 cap3, vs, .int .i64 c.unit, .int .i64 c.accel, .int .i64 c.speed, .int .i64 c.turn, .int .i64 c.hoist, .int .i64 c.queue, .int .i64 c.resend, .int .i64 c.budget, .bool c.back] wr) := HN.out.box
                obtain ⟨a5, cap5, hv5, h05, hc5, _⟩ := own_form hown
                subst hv5
                have hlen : (homeT c n3).length ≤ 16 := by rw [homeT_len]; omega
                have HL : Hid (ListAt 2 cellEl (Since (w.heap.size + 1) wr) (homeT c n3) (.slice a5 (homeT c n3).length cap5) wr) := list_of_own kindCell.len hown
                rw [HEq.out] at HL hlen
                rw [HEq.out]
                clear HN hown HEq hk hlt h05 hc5
                generalize hh : homes c = hs at *
                have HH : Hid (homes c = hs) := hh
                clear hh
                obtain ⟨N, hN⟩ : ∃ N, hs.length = N := ⟨_, rfl⟩
                have HNl : Hid (hs.length = N) := hN
                rw [hN] at HL hlen
                rw [hN]
                clear hN
                obtain ⟨IW, hIW⟩ : ∃ I : World → Prop, I = Below wr.heap.size wr := ⟨_, rfl⟩
                have kW : ∀ u, IW u → Below wr.heap.size wr u := fun u hu => by rw [hIW] at hu; exact hu
                have HW0 : Hid (IW wr) := by show IW wr; rw [hIW]; exact Below.refl _ _
                have HB : Hid (Below w.heap.size w wr) := HQ.out.below
                have eW := HQ.out.a
                have HCW : Hid (∀ u, IW u → u.heap[w.heap.size]? = some (.cells #[.int .i64 c.W, .int .i64 c.H, .int .i64 c.height, .slice a1 n1 cap1, .slice a2 n2 cap2, .slice a3 n3 cap3, vs, .int .i64 c.unit, .int .i64 c.accel, .int .i64 c.speed, .int .i64 c.turn, .int .i64 c.hoist, .int .i64 c.queue, .int .i64 c.resend, .int .i64 c.budget, .bool c.back] 26 (0, 0))) := fun u hu => ((kW u hu).block _ (lt_of_heap eW)).trans eW
                have HLw : Hid (∀ u, IW u → ListAt 2 cellEl (Since (w.heap.size + 1) wr) hs (.slice a5 N cap5) u) := fun u hu => HL.out.go heldCell (fun g hg => hg.2) (kW u hu)
                have HS2 : Hid (∀ u, IW u → ∀ g, Since (w.heap.size + 1) wr g → g < u.heap.size) := fun u hu g hg => Nat.lt_of_lt_of_le hg.2 (kW u hu).size
                clear HL eW
                go_wp2
                clear k5
                go_loopw [7] (fun i wq => ∃ k : Nat, k ≤ N ∧ i = .int .i64 k ∧ Hid (IW wq) ∧ Hid (∀ b ∈ hs.take k, hs.count b ≤ 1)) (fun i _ => N - (intOf i).toNat)
                case atStart => exact ⟨0, Nat.zero_le _, rfl, HW0, fun b hb => by simp at hb⟩
                case round =>
                  obtain ⟨k, hk, rfl, HI, HG⟩ := hrel
                  clear HW0
                  by_cases hlt : k < N
                  · have hlt' : k < hs.length := by rw [HNl.out]; exact hlt
                    have HBad : Hid (¬ hs.count (hs[k]'hlt') ≤ 1 → R = false) := fun h => HR.out ▸ may_h (c := c) (b := hs[k]'hlt') (by rw [HH.out]; exact h)
                    have HNx : Hid (hs.count (hs[k]'hlt') ≤ 1 → ∀ b ∈ hs.take (k + 1), hs.count b ≤ 1) := fun h => all_next hlt' HG.out h
                    obtain ⟨p, cs, cap', hv, hpF, hcs, hrd⟩ := (HLw.out wr HI.out).item hlt'
                    generalize hs[k]'hlt' = qr at *
                    obtain ⟨x, y⟩ := qr
                    obtain rfl := hcs
                    rw [HNl.out] at hv
                    obtain ⟨rfl, rfl⟩ : a5 = some p ∧ cap5 = cap' := by injection hv with h1 h2 h3; exact ⟨h1, h3⟩
                    clear hv
                    have cA := among_any _ hs _ x y wr (HLw.out wr HI.out) (HS2.out wr HI.out) (by rw [HNl.out]; omega)
                    obtain ⟨m1, hm1⟩ : ∃ m, hs.count (x, y) = m := ⟨_, rfl⟩
                    rw [hm1] at HBad HNx cA
                    clear hm1
                    have HBw : Hid (Below w.heap.size w wr) := bcat HB.out (kW _ HI.out) (Nat.le_refl _)
                    by_cases g1 : m1 ≤ 1
                    · have g1i : ¬ (1 : Int) < (m1 : Int) := by omega
                      have HG9 := HNx.out g1
                      have HGG : Hid (∀ b ∈ hs.take (k + 1), hs.count b ≤ 1) := HG9
                      clear HG9
                      go_wp2_with (first
                        | (refine wpList_load_at rfl 39 (.tmp 143) rfl (p.add (k * 2)) rfl #[.int .i64 x, .int .i64 y] hrd (aggCell _) infoCell2 ?_)
                        | (go_at_call 34; refine cA.mono ?_; rintro e w6 ⟨r6, rfl, rfl, b6⟩; have HI6 : Hid (IW w6) := by (have := kW _ HI.out; show IW w6; rw [hIW]; exact bcat this b6 (Nat.le_refl _))))
                      go_roundw
                      case rel => exact ⟨k + 1, by omega, by go_num, HI6, HGG⟩
                      case measure => simp [intOf]; omega
                    · have g1i : (1 : Int) < (m1 : Int) := by omega
                      have HT : Hid (R = false) := HBad.out g1
                      go_wp2_with (first
                        | (refine wpList_load_at rfl 39 (.tmp 143) rfl (p.add (k * 2)) rfl #[.int .i64 x, .int .i64 y] hrd (aggCell _) infoCell2 ?_)
                        | (go_at_call 34; refine cA.mono ?_; rintro e w6 ⟨r6, rfl, rfl, b6⟩))
                      go_ret
                      exact ⟨_, rfl, congrArg Value.bool HT.out.symm, bcat HBw.out b6 (Nat.le_refl _)⟩
                  · obtain rfl : N = k := by omega
                    have HT : Hid (R = decide (binsP c)) := by
                      show R = decide (binsP c)
                      rw [← HR.out]
                      refine may_all HLM.out (by rw [H2.out]; exact h8) (by rw [H3.out]; exact h9) HA1.out HA2.out HA3.out ?_
                      rw [HH.out]
                      have := HG.out
                      rw [← HNl.out, List.take_length] at this
                      exact this
                    have eB := HCW.out _ HI.out
                    have HBw := bcat HB.out (kW _ HI.out) (Nat.le_refl _)
                    have cZZ := cZ.out wr HBw (limited_sides HLM.out).2.2.2.2.2
                    rw [← HT.out] at cZZ
                    go_wp2_with (first
                      | (refine wpList_load_row rfl 26 (.tmp 1) rfl w.heap.size rfl 26 #[.int .i64 c.W, .int .i64 c.H, .int .i64 c.height, .slice a1 n1 cap1, .slice a2 n2 cap2, .slice a3 n3 cap3, vs, .int .i64 c.unit, .int .i64 c.accel, .int .i64 c.speed, .int .i64 c.turn, .int .i64 c.hoist, .int .i64 c.queue, .int .i64 c.resend, .int .i64 c.budget, .bool c.back] (0, 0) _ eB Try.underlying26 rfl info_conf ?_)
                      | (go_at_call 39; refine cZZ.mono ?_; rintro e w6 ⟨r6, rfl, rfl, b6⟩))
                    go_ret
                    exact ⟨_, rfl, rfl, bcat HBw b6 (Nat.le_refl _)⟩
end Go.Proofs.Ytabbdclpjghdbaa.Grid
