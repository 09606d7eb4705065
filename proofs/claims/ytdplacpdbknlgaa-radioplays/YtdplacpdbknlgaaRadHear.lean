/-
  A radio: Hear, Lose; a copy of its list.
-/
import Derived.Test.YtdplacpdbknlgaaRadSend
namespace Go.Proofs.Ytdplacpdbknlgaa.Lk
set_option linter.unusedVariables false
set_option linter.unusedSimpArgs false
open Go Go.RowKit Go.Shelf Go.Proofs
attribute [local go_sem] Oper.semAt_some

theorem RdAt.keepRow {T : TypeId} {B : Nat} {w : World} {p : Nat} {v : Value} {l : List Tl} (h : RdAt T B w p v l) (g : Nat) (cs : Array Value) (h1 : g ≠ p) (h2 : v.ownBlock ≠ some g) : RdAt T B (w.setRow g cs) p v l :=
  ⟨(setRow_other w g p cs (fun e => h1 e.symm)).trans h.at_, owns_same h.own fun k hk => setRow_other w g k cs (fun e => h2 (by rw [← e]; exact hk)), h.ne, h.big, h.len⟩
theorem own_ne {g k n cap : Nat} (h : g ≠ k) : (Value.slice (some ⟨g, 0, none⟩) n cap).ownBlock ≠ some k := fun e => h (by injection e)
theorem Tn.row_ {a b : World} {p : Nat} {v v' : Value} (h : Tn a b p v v') {g : Nat} (hg : a.heap.size ≤ g) (cs : Array Value) : Tn a (b.setRow g cs) p v v' :=
  ⟨h.os, h.tape, h.output, by simpa using h.size, fun k h1 h2 h3 => (setRow_other b g k cs (by omega)).trans (h.block k h1 h2 h3), h.row⟩
set_option maxHeartbeats 1000000 in
theorem radHear_none {B : Nat} {w : World} {p : Nat} {v : Value} (h : RdAt 57 B w p v []) (i : Int) (keep : Bool) : Calls Try.prog 13 #[.pointer (some ⟨p, 0, none⟩), .int .i64 i, .bool keep] w fun e w' => e = .returned (.tuple #[.agg (tlA tl0), .bool false]) ∧ RdAt 57 B w' p v [] ∧ Tn w w' p v v := by
  obtain ⟨w1, hw1⟩ : ∃ w1, w1 = w.alloc (.cells (tlA tl0) 42) := ⟨_, rfl⟩
  have b1 : Below w.heap.size w w1 := by rw [hw1]; exact (Below.refl _ _).alloc (Nat.le_refl _) _
  have hz1 : w1.heap[w.heap.size]? = some (.cells (tlA tl0) 42 (0, 0)) := by rw [hw1]; exact World.alloc_heap_new _ _
  have cp := radPlace_none (h.go b1) i
  have HE : Hid (RdAt 57 B (w1.setRow w.heap.size (tlA tl0)) p v [] ∧ Tn w (w1.setRow w.heap.size (tlA tl0)) p v v) := ⟨(h.go b1).keepRow _ _ (by have := h.lt; omega) (fun e => by have := (h.own.lt _ e).2; omega), (Tn.of_below p v b1).row_ (Nat.le_refl _) _⟩
  have HZ : Hid (w1.heap[w.heap.size]? = some (.cells (tlA tl0) 42 (0, 0))) := hz1
  clear h b1 hz1
  go_enter Try.func13, Try.ntmps13
  go_wp2_with (first
    | (refine wpList_allocTele rfl rfl ?_; rw [← hw1]; clear hw1)
    | (go_at_call 20; refine cp.mono ?_; rintro e wp ⟨rfl, hwp⟩; rw [hwp]; clear hwp cp)
    | (refine wpList_build0 rfl rfl ?_)
    | (refine wpList_store_row rfl 42 (.tmp 6) (.tmp 19) rfl w.heap.size (tlA tl0) rfl rfl 42 (tlA tl0) HZ.out infoTele rfl (tlA_one _) ?_))
  exact bodyPost_ret (results_cell_tmp Try.results13 _ _ w.heap.size _ rfl (load_tele (setRow_heap _ _ _ _ _ _ HZ.out))) rfl ⟨rfl, HE.out⟩
set_option maxRecDepth 100000 in
set_option maxHeartbeats 2000000 in
theorem radHear_any {B : Nat} {w : World} {p : Nat} {v : Value} {l : List Tl} (h : RdAt 57 B w p v l) (i : Int) (keep : Bool) (t : Tl) (ht : l[plN i l.length]? = some t) : Calls Try.prog 13 #[.pointer (some ⟨p, 0, none⟩), .int .i64 i, .bool keep] w fun e w' => e = .returned (.tuple #[.agg (tlA t), .bool true]) ∧ ∃ v', RdAt 57 B w' p v' (if keep then l else cutP l (plN i l.length)) ∧ Tn w w' p v v' := by
  obtain ⟨w1, hw1⟩ : ∃ w1, w1 = w.alloc (.cells (tlA tl0) 42) := ⟨_, rfl⟩
  have b1 : Below w.heap.size w w1 := by rw [hw1]; exact (Below.refl _ _).alloc (Nat.le_refl _) _
  have hz1 : w1.heap[w.heap.size]? = some (.cells (tlA tl0) 42 (0, 0)) := by rw [hw1]; exact World.alloc_heap_new _ _
  have h1 := h.go b1
  have cp := radPlace_any h1 i (by have := (List.getElem?_eq_some_iff.1 ht).1; omega)
  generalize plN i l.length = k at *
  obtain ⟨hk, hkt⟩ := List.getElem?_eq_some_iff.1 ht
  obtain ⟨n, hn⟩ : ∃ n, l.length = n := ⟨_, rfl⟩
  obtain ⟨g, cap, rfl, lg, hld⟩ := own_item h1.own hn (k := k) (by omega)
  rw [hkt] at hld
  have c1 := h1.c0
  have lg0 : g < w.heap.size := (h.own.lt g rfl).2
  obtain ⟨w2, hw2⟩ : ∃ w2, w2 = w1.alloc (.cells (tlA t) 42) := ⟨_, rfl⟩
  have b2 : Below w1.heap.size w1 w2 := by rw [hw2]; exact (Below.refl _ _).alloc (Nat.le_refl _) _
  have hz2 : w2.heap[w1.heap.size]? = some (.cells (tlA t) 42 (0, 0)) := by rw [hw2]; exact World.alloc_heap_new _ _
  have s1 : w1.heap.size = w.heap.size + 1 := by rw [hw1]; simp
  have hy2 := (b2.block _ (by omega)).trans hz1
  have h2 := h1.go b2
  have cd := radDrop_any h2 k (by omega)
  have b12 : Below w.heap.size w w2 := b1.trans (b2.mono (by omega))
  have HLD : Hid ((loadVar 42 ⟨g, k * 19, none⟩).run Try.prog w1 = .ok (.agg (tlA t)) w1) := hld w1 rfl
  rw [hn] at hk
  have HK : Hid (k < n) := hk
  have hk1 : (k : Int) < (n : Int) := by omega
  have HLT : Hid (p < w.heap.size) := h.lt
  have HT2 : Hid (Tn w w2 p (.slice (some ⟨g, 0, none⟩) n cap) (.slice (some ⟨g, 0, none⟩) n cap)) := Tn.of_below _ _ b12
  have H2 : Hid (RdAt 57 B w2 p (.slice (some ⟨g, 0, none⟩) n cap) l) := h2
  have HZ1 : Hid (w2.heap[w.heap.size]? = some (.cells (tlA tl0) 42 (0, 0))) := hy2
  have HZ2 : Hid (w2.heap[w1.heap.size]? = some (.cells (tlA t) 42 (0, 0))) := hz2
  have S1 : Hid (w1.heap.size = w.heap.size + 1 ∧ w1.heap.size + 1 = w2.heap.size) := ⟨s1, by rw [hw2]; simp⟩
  have LG : Hid (g < w.heap.size) := lg0
  obtain ⟨gw, hgw⟩ : ∃ gw, w.heap.size = gw := ⟨_, rfl⟩
  obtain ⟨g1, hg1⟩ : ∃ g1, w1.heap.size = g1 := ⟨_, rfl⟩
  have HGW : Hid (w.heap.size = gw) := hgw
  rw [hgw] at HZ1 S1 LG HLT
  rw [hg1] at HZ2 S1
  clear h h1 h2 b1 b2 b12 hz1 hz2 hy2 hk hkt ht s1 lg lg0 hld hn
  cases keep with
  | true =>
    clear cd
    rw [if_pos rfl]
    go_enter Try.func13, Try.ntmps13
    go_wp2_with (first
      | (refine wpList_allocTele rfl rfl ?_; rw [← hw1]; clear hw1)
      | (go_at_call 20; refine cp.mono ?_; rintro e wp ⟨rfl, hwp⟩; rw [hwp]; clear hwp cp)
      | (refine wpList_load_at rfl 42 (.tmp 25) rfl ⟨g, k * 19, none⟩ rfl (tlA t) HLD.out ?_)
      | (refine wpList_new rfl rfl 42 10 (.tmp 26) rfl rfl rfl rfl (tlA tl0) (tlA t) (zeroTele _) rfl rfl infoTele rfl (tlA_one _) ?_; rw [← hw2, hg1]; clear hw2)
      | (refine wpList_load_at rfl 42 (.tmp 10) rfl ⟨g1, 0, none⟩ rfl (tlA t) (load_tele HZ2.out) ?_)
      | (refine wpList_store_row rfl 42 (.tmp 6) (.tmp 32) rfl gw (tlA t) rfl rfl 42 (tlA tl0) HZ1.out infoTele rfl (tlA_one _) ?_))
    exact bodyPost_ret (results_cell_tmp Try.results13 _ _ gw _ rfl (load_tele (setRow_heap _ _ _ _ _ _ HZ1.out))) rfl ⟨rfl, _, H2.out.keepRow _ _ (by have := HLT.out; omega) (own_ne (by have := LG.out; omega)), HT2.out.row_ (by rw [HGW.out]; exact Nat.le_refl _) _⟩
  | false =>
    rw [if_neg (by decide)]
    go_enter Try.func13, Try.ntmps13
    go_wp2_with (first
      | (have X' := HZ5; refine wpList_load_at rfl 42 (.tmp 10) rfl ⟨g1, 0, none⟩ rfl (tlA t) (load_tele HZ5.out) ?_)
      | (have X' := HZ5; refine wpList_store_row rfl 42 (.tmp 6) (.tmp 32) rfl gw (tlA t) rfl rfl 42 (tlA tl0) HZ6.out infoTele rfl (tlA_one _) ?_)
      | (refine wpList_allocTele rfl rfl ?_; rw [← hw1]; clear hw1)
      | (go_at_call 20; refine cp.mono ?_; rintro e wp ⟨rfl, hwp⟩; rw [hwp]; clear hwp cp)
      | (refine wpList_load_at rfl 42 (.tmp 25) rfl ⟨g, k * 19, none⟩ rfl (tlA t) HLD.out ?_)
      | (refine wpList_new rfl rfl 42 10 (.tmp 26) rfl rfl rfl rfl (tlA tl0) (tlA t) (zeroTele _) rfl rfl infoTele rfl (tlA_one _) ?_; rw [← hw2, hg1]; clear hw2)
      | (go_at_call 21; go_loud (refine cd.mono ?_; rintro e x3 ⟨rfl, v3, k3, t3⟩; have HZ5 : Hid (x3.heap[g1]? = some (.cells (tlA t) 42 (0, 0))) := (by show _ = _; rw [t3.block g1 (by have := S1.out; omega) (by have := S1.out; have := HLT.out; omega) (own_ne (by have := LG.out; have := S1.out; omega))]; exact HZ2.out); have HZ6 : Hid (x3.heap[gw]? = some (.cells (tlA tl0) 42 (0, 0))) := (by show _ = _; rw [t3.block gw (by have := S1.out; omega) (by have := HLT.out; omega) (own_ne (by have := LG.out; omega))]; exact HZ1.out); have HR3 : Hid (v3.ownBlock ≠ some gw) := (by show _ ≠ _; intro e; rcases t3.row gw e with q | q <;> first | (exact own_ne (by have := LG.out; omega) q) | (have := S1.out; omega)); have K3 : Hid (RdAt 57 B x3 p v3 (cutP l k)) := k3; have T3 : Hid (Tn w x3 p (.slice (some ⟨g, 0, none⟩) n cap) v3) := HT2.out.trans t3; clear k3 t3 cd)))
    exact bodyPost_ret (results_cell_tmp Try.results13 _ _ gw _ rfl (load_tele (setRow_heap _ _ _ _ _ _ HZ6.out))) rfl ⟨rfl, _, K3.out.keepRow _ _ (by have := HLT.out; omega) HR3.out, T3.out.row_ (by rw [HGW.out]; exact Nat.le_refl _) _⟩
set_option maxHeartbeats 1000000 in
theorem radLose_none {B : Nat} {w : World} {p : Nat} {v : Value} (h : RdAt 57 B w p v []) (i : Int) : Calls Try.prog 15 #[.pointer (some ⟨p, 0, none⟩), .int .i64 i] w fun e w' => e = .returned (.bool false) ∧ w' = w := by
  have cp := radPlace_none h i
  clear h
  go_enter Try.func15, Try.ntmps15
  go_wp2_with (first
    | (go_at_call 20; refine cp.mono ?_; rintro e wp ⟨rfl, hwp⟩; rw [hwp]; clear hwp cp))
  go_ret
  exact ⟨rfl, rfl⟩
set_option maxHeartbeats 1000000 in
theorem radLose_any {B : Nat} {w : World} {p : Nat} {v : Value} {l : List Tl} (h : RdAt 57 B w p v l) (i : Int) (h0 : 0 < l.length) : Calls Try.prog 15 #[.pointer (some ⟨p, 0, none⟩), .int .i64 i] w fun e w' => e = .returned (.bool true) ∧ ∃ v', RdAt 57 B w' p v' (cutP l (plN i l.length)) ∧ Tn w w' p v v' := by
  have cp := radPlace_any h i h0
  have cd := radDrop_any h (plN i l.length) (plN_lt i h0)
  clear h
  go_enter Try.func15, Try.ntmps15
  go_wp2_with (first
    | (go_at_call 20; refine cp.mono ?_; rintro e wp ⟨rfl, hwp⟩; rw [hwp]; clear hwp cp)
    | (go_at_call 21; refine cd.mono ?_; rintro e x3 ⟨rfl, v3, k3, t3⟩))
  go_ret
  exact ⟨rfl, v3, k3, t3⟩
theorem eqlT_nil (w : World) (a : Option Addr) (l c : Nat) : (binOp .eql 27 (.slice a l c) (.slice none 0 0)).run Try.prog w = .ok (.bool a.isNone) w := by
  simp only [binOp]
  simp [run_equal_slice_nil w 27 42 a l c Try.underlying27]
set_option maxHeartbeats 1000000 in
theorem cloneT_any {w : World} {v : Value} {l : List Tl} (h : Lies w v l) (hl : l.length ≤ 100000) : Calls Try.prog 26 #[v] w fun e w' => ∃ v', e = .returned v' ∧ Own w' w.heap.size v' l ∧ Below w.heap.size w w' := by
  have hu := eqlT_nil
  obtain ⟨a, cap, rfl, h0, _⟩ := id h
  cases a with
  | none =>
    obtain ⟨h1, rfl⟩ := h0 rfl
    obtain rfl : l = [] := List.eq_nil_of_length_eq_zero h1
    clear h
    go_enter Try.func26, Try.ntmps26
    go_wp2
    go_ret
    exact ⟨_, rfl, World.ownsRow_nil _ _ _ _, Below.refl _ _⟩
  | some p =>
    have hL : ∀ o, Lies (w.alloc o) (.slice (some p) l.length cap) l := fun o => h.go ((Below.refl w.heap.size w).alloc (Nat.le_refl _) o)
    generalize hn : l.length = n at *
    have HN : Hid (l.length = n) := hn
    clear hn h h0
    go_enter Try.func26, Try.ntmps26
    go_wp2_with (at_builtin; refine wpList_pushAny rfl _ _ rfl w.heap.size (.slice (some ⟨w.heap.size, 0, none⟩) 0 0) [] rfl (World.ownsRow_made w #[] 0 (Nat.le_refl _) (by decide) (by decide)) _ l rfl (hL _) (by rw [HN.out]; simp; omega) (by simp) ?_; intro v' w1 hown hgrow hat)
    rw [List.nil_append] at hown
    go_ret
    exact ⟨_, rfl, hown, ((Below.refl w.heap.size w).alloc (Nat.le_refl _) _).grown hgrow (by simp) (fun k hk => by cases hk; exact Nat.le_refl _)⟩
end Go.Proofs.Ytdplacpdbknlgaa.Lk
