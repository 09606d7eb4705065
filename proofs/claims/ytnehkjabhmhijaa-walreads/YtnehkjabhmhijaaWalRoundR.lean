/-
  What the law WalReads asks of its log's own bytes: each record is told, at the end of the one ahead.
-/
import Derived.Test.YtnehkjabhmhijaaWalTellR
namespace Go.Proofs.Ytnehkjabhmhijaa.Wal
set_option linter.unusedVariables false
set_option linter.unusedSimpArgs false
open Go Go.RowKit Go.Shelf Go.Proofs
open Go.Proofs.Ytnehkjabhmhijaa.Disk (Row getD_in ret_int add_add DiskIs Kept St now setSt owns_row owns_same)

theorem places_snd (ns : List Nat) : ∀ a, (places a ns).map Prod.snd = ns := by
  induction ns with
  | nil => intro a; rfl
  | cons n ns ih => intro a; simp only [places, List.map_cons, ih]
theorem places_fst (ns : List Nat) (k : Nat) (r : Nat × Nat) (h : (places 0 ns)[k]? = Option.some r) : r.1 = stop 0 (ns.take k) := by
  have hk : k < ns.length := by
    have := (List.getElem?_eq_some_iff.1 h).1
    rwa [places_length] at this
  have e : places 0 ns = places 0 (ns.take k) ++ places (stop 0 (ns.take k)) (ns.drop k) := by rw [← places_append, List.take_append_drop]
  rw [e, List.getElem?_append_right (by rw [places_length, List.length_take]; omega), places_length, List.length_take, Nat.min_eq_left (by omega), Nat.sub_self] at h
  obtain ⟨m, ms, hms⟩ : ∃ m ms, ns.drop k = m :: ms := by
    cases hd : ns.drop k with
    | nil => have := congrArg List.length hd; rw [List.length_drop] at this; simp at this; omega
    | cons m ms => exact ⟨m, ms, rfl⟩
  rw [hms] at h
  simp only [places, List.getElem?_cons_zero, Option.some.injEq] at h
  rw [← h]
def qOf {zs : List Int} (pre : List (Rec zs)) : Nat := stop 0 (pre.map fun r => r.1.2)
theorem qOf_snoc {zs : List Int} (pre : List (Rec zs)) (r : Rec zs) : qOf (pre ++ [r]) = qOf pre + (8 + r.1.2) := by
  unfold qOf
  rw [List.map_append, List.map_singleton, stop_snoc]
theorem stop_bound (ns : List Nat) (h : ∀ n ∈ ns, n ≤ 65536) : ∀ a, stop a ns ≤ a + ns.length * 65544 := by
  induction ns with
  | nil => intro a; simp [stop]
  | cons n ns ih =>
    intro a
    rw [stop_cons]
    have h1 := ih (fun m hm => h m (List.mem_cons_of_mem _ hm)) (a + (8 + n))
    have h2 := h n List.mem_cons_self
    rw [List.length_cons, Nat.succ_mul]
    omega
theorem qOf_bound {zs : List Int} (pre : List (Rec zs)) (h : ∀ r : Rec zs, r.1.2 ≤ 65536) : qOf pre ≤ pre.length * 65544 := by
  unfold qOf
  have := stop_bound (pre.map fun r => r.1.2) (fun n hn => by obtain ⟨r, _, rfl⟩ := List.mem_map.1 hn; exact h r) 0
  rw [List.length_map] at this
  omega
theorem qOf_prefix {zs : List Int} {ns : List Nat} {pre : List (Rec zs)} (h : pre.map Subtype.val = (places 0 ns).take pre.length) : qOf pre = stop 0 (ns.take pre.length) := by
  unfold qOf
  have := congrArg (List.map Prod.snd) h
  rw [List.map_map, List.map_take, places_snd] at this
  rw [← this]
  rfl
structure JR (w0 : World) (zs : List Int) (ns : List Nat) (OKB NB AB : Nat) (pre : List (Rec zs)) (V : World) : Prop where
  below : Below w0.heap.size w0 V
  ok : ∃ b, Boxed V OKB 4 (.bool b) ∧ (pre.map Subtype.val = (places 0 ns).take pre.length → b = true)
  n : Boxed V NB 3 (.int .i64 pre.length)
  at_ : Boxed V AB 3 (.int .i64 (qOf pre))
theorem JR.kept {w0 X Y : World} {zs : List Int} {ns : List Nat} {OKB NB AB : Nat} {pre : List (Rec zs)} {row : Option Nat} (h : JR w0 zs ns OKB NB AB pre X) (hg : X.grownBy Y row) (hr : ∀ r, row = Option.some r → w0.heap.size ≤ r ∧ ∃ o : Obj, X.heap[r]? = Option.some o ∧ o.isCells = false) : JR w0 zs ns OKB NB AB pre Y := by
  obtain ⟨b, hb, hi⟩ := h.ok
  exact ⟨h.below.grown hg h.below.size (fun r e => (hr r e).1), ⟨b, box_kept hb hg (fun r e => (hr r e).2), hi⟩, box_kept h.n hg (fun r e => (hr r e).2), box_kept h.at_ hg (fun r e => (hr r e).2)⟩
theorem JR.after {w0 X Y : World} {zs : List Int} {ns : List Nat} {OKB NB AB : Nat} {pre : List (Rec zs)} (h : JR w0 zs ns OKB NB AB pre X) (hb : Below X.heap.size X Y) : JR w0 zs ns OKB NB AB pre Y := by
  obtain ⟨b, h1, hi⟩ := h.ok
  exact ⟨h.below.trans (hb.mono h.below.size), ⟨b, boxed_after h1 hb, hi⟩, boxed_after h.n hb, boxed_after h.at_ hb⟩

set_option maxRecDepth 100000 in
set_option maxHeartbeats 2000000 in
theorem roundR_any (w0 : World) (B0 SB N sc len cap : Nat) (sa a : Option Addr) (zs : List Int) (ns : List Nat) (ps : List Piece) (hd : Done zs ns) (hns : ns.length = N) (hN : N ≤ 100) (hsay : says zs 0 ns = ps.map Piece.zs)
    (hB0 : w0.cell? ⟨B0, 0, none⟩ = Option.some (.slice a len cap)) (hB0l : B0 < w0.heap.size) (hr : Row w0 a len zs) (base : Nat) (how : w0.ownsRow base 5 1 (.slice a len cap) len (zs.map (Value.int .u8))) (hlen : len ≤ 1000000)
    (hT : Texts w0 sa N ps) (hSB : Boxed w0 SB 27 (.slice sa N sc)) :
    Calls Try.prog 28 #[.func (.func 17) #[] #[.pointer (Option.some ⟨w0.heap.size + 1 + 1, 0, none⟩), .pointer (Option.some ⟨w0.heap.size, 0, none⟩), .pointer (Option.some ⟨SB, 0, none⟩), .pointer (Option.some ⟨w0.heap.size + 1, 0, none⟩)], .pointer (Option.some ⟨B0, 0, none⟩)]
      (((w0.alloc (.cells #[.int .i64 0] 3)).alloc (.cells #[.int .i64 0] 3)).alloc (.cells #[.bool true] 4)) fun e V' =>
      (∃ v, e = .returned v) ∧ Below w0.heap.size w0 V' ∧ V'.cell? ⟨w0.heap.size + 1 + 1, 0, none⟩ = Option.some (.bool true) ∧ V'.cell? ⟨w0.heap.size, 0, none⟩ = Option.some (.int .i64 N) ∧ V'.cell? ⟨w0.heap.size + 1, 0, none⟩ = Option.some (.int .i64 (stop 0 ns)) := by
  have e1 : (w0.alloc (.cells #[.int .i64 0] 3)).heap.size = w0.heap.size + 1 := by simp
  have e2 : ((w0.alloc (.cells #[.int .i64 0] 3)).alloc (.cells #[.int .i64 0] 3)).heap.size = w0.heap.size + 1 + 1 := by simp
  have x1 : Boxed (((w0.alloc (.cells #[.int .i64 0] 3)).alloc (.cells #[.int .i64 0] 3)).alloc (.cells #[.bool true] 4)) w0.heap.size 3 (.int .i64 0) := ((Boxed.new w0 3 (.int .i64 0)).alloc _).alloc _
  have x2 : Boxed (((w0.alloc (.cells #[.int .i64 0] 3)).alloc (.cells #[.int .i64 0] 3)).alloc (.cells #[.bool true] 4)) (w0.heap.size + 1) 3 (.int .i64 0) := by
    have := (Boxed.new (w0.alloc (.cells #[.int .i64 0] 3)) 3 (.int .i64 0)).alloc (.cells #[.bool true] 4)
    rw [e1] at this
    exact this
  have x3 : Boxed (((w0.alloc (.cells #[.int .i64 0] 3)).alloc (.cells #[.int .i64 0] 3)).alloc (.cells #[.bool true] 4)) (w0.heap.size + 1 + 1) 4 (.bool true) := by
    have := Boxed.new ((w0.alloc (.cells #[.int .i64 0] 3)).alloc (.cells #[.int .i64 0] 3)) 4 (.bool true)
    rw [e2] at this
    exact this
  have bV : Below w0.heap.size w0 (((w0.alloc (.cells #[.int .i64 0] 3)).alloc (.cells #[.int .i64 0] 3)).alloc (.cells #[.bool true] 4)) := (((Below.refl _ w0).alloc (Nat.le_refl _) _).alloc (by rw [e1]; omega) _).alloc (by rw [e2]; omega) _
  have sV : (((w0.alloc (.cells #[.int .i64 0] 3)).alloc (.cells #[.int .i64 0] 3)).alloc (.cells #[.bool true] 4)).heap.size = w0.heap.size + 1 + 1 + 1 := by simp
  generalize ((w0.alloc (.cells #[.int .i64 0] 3)).alloc (.cells #[.int .i64 0] 3)).alloc (.cells #[.bool true] 4) = V at *
  obtain ⟨f1, f2, f3⟩ := Disk.owns_form how
  have hcap : cap ≤ 9223372036854775807 := by
    rcases how.2 with ⟨e, _⟩ | ⟨g, cap', cur, e, _, _, _, hc2, _⟩
    · rw [Value.slice.injEq] at e; omega
    · rw [Value.slice.injEq] at e; unfold maxLen at hc2; omega
  obtain ⟨x, hx, hxb⟩ : ∃ x : Addr, (∀ y, a = Option.some y → y = x) ∧ x.block < w0.heap.size := by
    cases a with
    | none => exact ⟨⟨B0, 0, none⟩, fun y hy => (by cases hy), hB0l⟩
    | some y =>
      obtain ⟨g, hg, hgl⟩ := f2 y rfl
      exact ⟨y, fun z hz => (Option.some.inj hz).symm, by rw [hg]; exact hgl⟩
  have hpl : (places 0 ns).length = N := by rw [places_length, hns]
  have hpsl : ps.length = N := hT.len
  have hr65 : ∀ r : Rec zs, r.1.2 ≤ 65536 := fun r => by have := r.2; omega
  have hJ0 : JR w0 zs ns (w0.heap.size + 1 + 1) w0.heap.size (w0.heap.size + 1) [] V := ⟨bV, ⟨true, x3, fun _ => rfl⟩, x1, x2⟩
  refine (callsIn_wide.1 (iterR_any #[.pointer (Option.some ⟨w0.heap.size + 1 + 1, 0, none⟩), .pointer (Option.some ⟨w0.heap.size, 0, none⟩), .pointer (Option.some ⟨SB, 0, none⟩), .pointer (Option.some ⟨w0.heap.size + 1, 0, none⟩)] B0 x len cap zs ns V hd f3 hcap (by omega) (CN (w0.heap.size + 1 + 1) w0.heap.size (w0.heap.size + 1)) a hx f1
    ((bV.cell (p := ⟨B0, 0, none⟩) hB0l).trans hB0) (hr.after bV) (by omega) (fun k hk => by rcases hk with rfl | rfl | rfl <;> exact ⟨by omega, by omega⟩)
    (fun pre V => JR w0 zs ns (w0.heap.size + 1 + 1) w0.heap.size (w0.heap.size + 1) pre V) (fun pre V => Below w0.heap.size w0 V ∧ ¬ (pre.map Subtype.val = (places 0 ns).take pre.length))
    (fun s X Y row h hg hr => h.kept hg (fun r e => ⟨by have := (hr r e).1; omega, (hr r e).2⟩)) (fun s X Y row h hg hr => ⟨h.1.grown hg h.1.size (fun r e => by have := (hr r e).1; omega), h.2⟩) ?_ hJ0)).mono ?_
  · rintro pre r V1 V2 a' c' hj hlt ht hb hrow
    have hj2 := hj.after hb
    obtain ⟨b, hb1, hbi⟩ := hj2.ok
    have hr2 := r.2
    have hqb := qOf_bound pre hr65
    have hqb2 : qOf pre ≤ 100 * 65544 := Nat.le_trans hqb (Nat.mul_le_mul_right _ (by omega))
    refine (tellR_any w0 V2 (w0.heap.size + 1 + 1) w0.heap.size SB (w0.heap.size + 1) pre.length N sc r.1.2 c' r.1.1 (qOf pre) b sa a' ps (bytesAt zs r) hj2.below hT (by omega) hb1 hj2.n hSB hj2.at_ (by omega) (by omega) (by omega) (by omega) (by omega) hrow (by omega) (by omega)).mono ?_
    rintro e V3 ⟨b', rfl, hb3, hn3, ha3, ht3, himp⟩
    have hB3 : Below w0.heap.size w0 V3 := ⟨ht3.os.trans hj2.below.os, ht3.tape.trans hj2.below.tape, ht3.output.trans hj2.below.output, Nat.le_trans hj2.below.size ht3.size, fun q hq => (ht3.block q (Nat.lt_of_lt_of_le hq hj2.below.size) (fun c => by rcases c with c | c | c <;> omega)).trans (hj2.below.block q hq)⟩
    have key : (pre ++ [r]).map Subtype.val = (places 0 ns).take (pre ++ [r]).length → b' = true := fun hpre => by
      obtain ⟨q1, q2⟩ := take_snoc Subtype.val (places 0 ns) pre r hpre (by omega)
      refine himp ⟨hbi q1, ?_, ?_⟩
      · rw [qOf_prefix q1, ← places_fst ns pre.length r.1 q2]
      · have h3 := congrArg (fun l => l[pre.length]?) hsay
        simp only [List.getElem?_map] at h3
        rw [← h3, says_places, List.getElem?_map, q2]
        rfl
    cases b' with
    | true =>
      left
      refine ⟨rfl, ⟨hB3, ⟨true, hb3, fun _ => rfl⟩, ?_, ?_⟩, ht3⟩
      · rw [List.length_append, List.length_singleton]
        exact hn3
      · rw [qOf_snoc]
        have e : (((qOf pre + (8 + r.1.2) : Nat)) : Int) = (qOf pre : Int) + 8 + (r.1.2 : Int) := by omega
        rw [e]
        exact ha3
    | false =>
      right
      exact ⟨rfl, ⟨hB3, fun h => by cases key h⟩, ht3⟩
  · rintro e V' ⟨hv, ht, ⟨ys, hys, hj⟩ | ⟨pre, ⟨ms, hms, hpre⟩, hbl, hno⟩⟩
    · have hyl : ys.length = N := by have := congrArg List.length hys; rw [List.length_map, hpl] at this; exact this
      obtain ⟨b, hb, hbi⟩ := hj.ok
      have hpf : ys.map Subtype.val = (places 0 ns).take ys.length := by rw [hys, List.take_of_length_le (by omega)]
      obtain rfl := hbi hpf
      have hn := hj.n
      have ha := hj.at_
      rw [hyl] at hn
      rw [qOf_prefix hpf, hyl, List.take_of_length_le (by omega)] at ha
      exact ⟨hv, hj.below, hb.cell, hn.cell, ha.cell⟩
    · obtain ⟨rest, hrest⟩ := hms
      have hpl2 : pre.length = ms.length := by have := congrArg List.length hpre; rw [List.length_map, places_length] at this; exact this
      exact absurd (by rw [hpre, ← hrest, places_append, hpl2, ← places_length ms 0, List.take_left]) hno
end Go.Proofs.Ytnehkjabhmhijaa.Wal
