/-
  What is lost is never heard.
-/
import Derived.Test.YtdplacpdbknlgaaRadTwiceWalk
namespace Go.Proofs.Ytdplacpdbknlgaa.Lk
set_option linter.unusedVariables false
set_option linter.unusedSimpArgs false
open Go Go.RowKit Go.Shelf Go.Proofs
attribute [local go_sem] Oper.semAt_some

def Rs (l : List Tl) : Prop := l.Pairwise fun s t => s.nm < t.nm
theorem Rs.cut {l : List Tl} (h : Rs l) (k : Nat) : Rs (cutP l k) := by
  unfold cutP
  refine List.pairwise_append.2 ⟨h.sublist (List.take_sublist _ _), h.sublist (List.drop_sublist _ _), fun a ha b hb => ?_⟩
  have h1 : Rs (l.take k ++ l.drop k) := by rw [List.take_append_drop]; exact h
  have h2 : l.drop (k + 1) = (l.drop k).drop 1 := by rw [List.drop_drop]
  exact (List.pairwise_append.1 h1).2.2 a ha b (List.mem_of_mem_drop (by rw [h2] at hb; exact hb))
def numP (n : Nat) : List Tl := (List.range n).map fun (j : Nat) => tlG 0 0 0 ((j : Int) + 1)
theorem nums1_rs (n : Nat) : Rs (numP n) := by
  unfold Rs numP
  rw [List.pairwise_map]
  refine List.Pairwise.imp (R := fun a b => a < b) (fun hab => ?_) List.pairwise_lt_range
  show (_ : Int) + 1 < _ + 1
  omega
def loseL (l : List Tl) (i : Int) : List Tl := if l = [] then [] else cutP l (plN i l.length)
theorem lose_all {B : Nat} {w : World} {p : Nat} {v : Value} {l : List Tl} (h : RdAt 57 B w p v l) (i : Int) : Calls Try.prog 15 #[.pointer (some ⟨p, 0, none⟩), .int .i64 i] w fun e w' => e = .returned (.bool (decide (0 < (l.length : Int)))) ∧ ∃ v', RdAt 57 B w' p v' (loseL l i) ∧ Tn w w' p v v' := by
  by_cases h0 : 0 < l.length
  · refine (radLose_any h i h0).mono ?_
    rintro e w' ⟨rfl, v', G, t⟩
    refine ⟨by rw [decide_eq_true (by omega)], v', ?_, t⟩
    unfold loseL
    rw [if_neg (fun e => by rw [e] at h0; simp at h0)]
    exact G
  · obtain rfl : l = [] := List.eq_nil_of_length_eq_zero (by omega)
    refine (radLose_none h i).mono ?_
    rintro e w' ⟨rfl, rfl⟩
    exact ⟨rfl, v, h, Tn.refl _ _ _⟩
theorem loseL_len (l : List Tl) (i : Int) : (loseL l i).length = l.length - 1 := by
  unfold loseL
  split
  · next h => rw [h]; rfl
  · next h =>
    have h0 : 0 < l.length := by
      cases l with
      | nil => exact absurd rfl h
      | cons a l => simp
    exact cutP_len l (plN_lt i h0)
theorem loseL_rs {l : List Tl} (h : Rs l) (i : Int) : Rs (loseL l i) := by
  unfold loseL
  split
  · exact List.Pairwise.nil
  · exact h.cut _
theorem loseL_mem {l : List Tl} (i : Int) {t : Tl} (h : t ∈ loseL l i) : t ∈ l := by
  unfold loseL at h
  split at h
  · cases h
  · unfold cutP at h
    rcases List.mem_append.1 h with q | q
    · exact List.mem_of_mem_take q
    · exact List.mem_of_mem_drop q
theorem cut0 (t : Tl) (l : List Tl) : cutP (t :: l) 0 = l := by simp [cutP]
theorem plN_0 (n : Nat) : plN 0 n = 0 := by
  unfold plN place
  simp
set_option maxRecDepth 100000 in
set_option maxHeartbeats 4000000 in
theorem loses_all (n0 : Int) (a : Option Addr) (c cap : Nat) (zs : Nat → Int) (w : World) (hI : InN w a c zs) : Calls Try.prog 6 #[.int .i64 n0, .slice a c cap] w fun e w' => e = .returned (.bool true) ∧ Below w.heap.size w w' := by
  have cN := fun w => place_any n0 50 w (by decide) (by decide)
  have pN := place_bd n0 50 (by decide)
  obtain ⟨pn, hpn⟩ : ∃ pn : Nat, place n0 50 = (pn : Int) := ⟨(place n0 50).toNat, by omega⟩
  rw [hpn] at cN pN
  clear hpn
  obtain ⟨n, hn⟩ : ∃ n : Nat, n = 1 + pn := ⟨_, rfl⟩
  have hn1 : (1 : Int) + (pn : Int) = (n : Int) := by omega
  have HN1 : Hid ((1 : Int) + (pn : Int) = (n : Int)) := hn1
  have hb1 : n ≤ 50 := by omega
  have n1 := radNew_any w
  obtain ⟨B, hB⟩ : ∃ B, w.heap.size = B := ⟨_, rfl⟩
  have HIn : Hid (∀ u, Below B w u → InN u a c zs) := fun u hu => hI.go (by rw [hB]; exact hu)
  rw [hB] at n1 ⊢
  have HX : Hid (w.heap.size = B) := hB
  clear hB hn hn1 hI
  go_enter Try.func6, Try.ntmps6
  go_wp2_with (first
    | (go_at_call 9; refine n1.mono ?_; rintro e x1 ⟨rfl, G1, b1⟩; clear n1)
    | (have X' := cN; go_at_call 10; refine (cN _).mono ?_; rintro e yw ⟨rfl, hyw⟩; rw [hyw]; clear hyw cN))
  rw [HN1.out]
  go_loopw [6] (fun ci wr => ∃ (i : Nat) (v : Value), ci = .int .i64 i ∧ i ≤ n ∧ RdAt 57 B wr B v (numP i) ∧ Below B w wr) (fun ci _ => n - (intOf ci).toNat)
  case atStart => exact ⟨0, _, rfl, Nat.zero_le _, G1, b1⟩
  case round =>
    clear G1 b1
    obtain ⟨i, v, rfl, hi, G, bw⟩ := hrel
    by_cases hlt : i < n
    · have h3 : (i : Int) < (n : Int) := by omega
      obtain ⟨w1, hw1⟩ : ∃ w1, wr.alloc (.cells (tlA (tlG 0 0 0 ((i : Int) + 1))) 42) = w1 := ⟨_, rfl⟩
      have bb : Below wr.heap.size wr w1 := by rw [← hw1]; exact (Below.refl _ _).alloc (Nat.le_refl _) _
      have O1 := own_single (tlG 0 0 0 ((i : Int) + 1)) wr
      rw [hw1] at O1
      have G1 := G.go bb
      have bw1 : Below B w w1 := bw.trans (bb.mono (by have := bw.size; have := HX.out; omega))
      have cs := send_case G1 (Lies.of_own O1) (by simp) 1 (by simp [numP]; omega)
      have HK : Hid (∀ {w2 : World} {v2 : Value}, RdAt 57 B w2 B v2 ((numP i) ++ [tlG 0 0 0 ((i : Int) + 1)].take 1) → Tn w1 w2 B v v2 → RdAt 57 B w2 B v2 (numP (i + 1)) ∧ Below B w w2) := by
        intro w2 v2 G2 t2
        refine ⟨?_, t2.below G1 bw1⟩
        unfold numP at *
        rw [List.range_succ, List.map_append]
        exact G2
      clear G bw bb O1 G1 bw1
      go_wp2_with (first
        | (refine wpList_buildAs rfl 42 _ rfl (tlA (tlG 0 0 0 ((i : Int) + 1))) _ rfl (builtNum _) ?_)
        | (refine wpList_one rfl (.tmp 27) rfl (tlG 0 0 0 ((i : Int) + 1)) rfl ?_; rw [hw1])
        | (go_at_call 11; refine cs.mono ?_; rintro e w2 ⟨rfl, v2, G2, t2⟩; obtain ⟨G3, b3⟩ := HK.out G2 t2; clear cs G2 t2))
      go_roundw
      case rel => exact ⟨i + 1, v2, by go_num, by omega, G3, b3⟩
      case measure => simp [intOf]; omega
    · have h3 : ¬ (i : Int) < (n : Int) := by omega
      obtain rfl : i = n := by omega
      have HRs : Hid (Rs (numP i) ∧ (∀ t ∈ (numP i), 0 < t.nm) ∧ (numP i).length = i) := ⟨nums1_rs i, fun t ht => by
        unfold numP at ht
        obtain ⟨j, _, rfl⟩ := List.mem_map.1 ht
        show (0 : Int) < (j : Int) + 1
        omega, by simp [numP]⟩
      generalize (numP i) = l0 at *
      have G0 : Hid (RdAt 57 B wr B v l0) := G
      have BW0 : Hid (Below B w wr) := bw
      clear G bw hi hlt HN1 pN
      go_wp2_with fail
      go_loopw [7, 8] (fun ck cj wq => ∃ (j k : Nat) (v : Value) (l : List Tl), cj = .int .i64 j ∧ ck = .int .i64 k ∧ j ≤ 60 ∧ k ≤ 50 ∧ l.length = k ∧ RdAt 57 B wq B v l ∧ Rs l ∧ (∀ t ∈ l, 0 < t.nm) ∧ Below B w wq) (fun _ cj _ => 60 - (intOf cj).toNat)
      case atStart => exact ⟨0, i, _, l0, rfl, rfl, Nat.zero_le _, hb1, HRs.out.2.2, G0.out, HRs.out.1, HRs.out.2.1, BW0.out⟩
      case round =>
        clear G0 BW0 HRs
        obtain ⟨j, k, v1, l, rfl, rfl, hj, hk, hlk, G, hrs, hpos, bw⟩ := hrel
        by_cases hmore : j < c ∧ j < 60
        · obtain ⟨hc1, hc2⟩ := hmore
          have g1 : (j : Int) < (c : Int) := by omega
          have g2 : (j : Int) < 60 := by omega
          obtain ⟨x, rfl, hz⟩ := HIn.out _ bw j hc1
          have cl := lose_all G (zs j)
          rw [hlk] at cl
          have HG : Hid (∀ {w2 : World} {v2 : Value}, RdAt 57 B w2 B v2 (loseL l (zs j)) → Tn _ w2 B v1 v2 → (loseL l (zs j)).length = k - 1 ∧ Rs (loseL l (zs j)) ∧ (∀ t ∈ loseL l (zs j), 0 < t.nm) ∧ Below B w w2) := fun G2 t2 => ⟨by rw [loseL_len, hlk], loseL_rs hrs _, fun t ht => hpos t (loseL_mem _ ht), t2.below G bw⟩
          have HK1 : Hid (k ≤ 50) := hk
          have hk50 : (k : Int) ≤ 50 := by omega
          have hk00 : (0 : Int) ≤ (k : Int) := by omega
          clear G hrs hpos bw hlk hk
          by_cases hq : 1 < (k : Int)
          · have hq' : 0 < (k : Int) - 1 := by omega
            have hq2 : 0 < (k : Int) := by omega
            go_wp2_with (first
              | (go_at_call 15; refine cl.mono ?_; rintro e w2 ⟨rfl, v2, G2, t2⟩; obtain ⟨e2, r2, p2, b2⟩ := HG.out G2 t2; have HE2 : Hid ((loseL l (zs j)).length = k - 1) := e2; clear cl t2 e2))
            go_roundw
            case rel => exact ⟨j + 1, k - 1, v2, loseL l (zs j), by go_num, congrArg (Value.int .i64) (by omega), by omega, by have := HK1.out; omega, HE2.out, G2, r2, p2, b2⟩
            case measure => simp [intOf]; omega
          · have hq' : ¬ 0 < (k : Int) - 1 := by omega
            go_wp2_with (first
              | (go_at_call 15; refine cl.mono ?_; rintro e w2 ⟨rfl, v2, G2, t2⟩; obtain ⟨e2, r2, p2, b2⟩ := HG.out G2 t2; have HE2 : Hid ((loseL l (zs j)).length = k - 1) := e2; clear cl t2 e2))
            go_roundw
            case rel => exact ⟨j + 1, k - 1, v2, loseL l (zs j), by go_num, congrArg (Value.int .i64) (by omega), by omega, by have := HK1.out; omega, HE2.out, G2, r2, p2, b2⟩
            case measure => simp [intOf]; omega
        · have g3 : ¬ ((j : Int) < (c : Int) ∧ (j : Int) < 60) := fun hh => hmore (by omega)
          have HG0 : Hid (RdAt 57 B wr B v1 l) := G
          have HB0 : Hid (Below B w wr) := bw
          have HR0 : Hid (Rs l ∧ (∀ t ∈ l, 0 < t.nm) ∧ l.length = k) := ⟨hrs, hpos, hlk⟩
          have hk50 : (k : Int) ≤ 50 := by omega
          clear G bw hrs hpos hlk hmore hk
          by_cases hc1 : (j : Int) < (c : Int)
          · have hc2 : ¬ (j : Int) < 60 := fun hh => g3 ⟨hc1, hh⟩
            clear g3
            go_wp2_with fail
            go_loopw [9, 10] (fun ca ci wq => ∃ (i : Nat) (la : Int) (v : Value) (l' : List Tl), ci = .int .i64 i ∧ ca = .int .i64 la ∧ i ≤ k ∧ l'.length = k - i ∧ RdAt 57 B wq B v l' ∧ Rs l' ∧ (∀ t ∈ l', la < t.nm) ∧ Below B w wq) (fun _ ci _ => k - (intOf ci).toNat)
            case atStart => exact ⟨0, 0, _, l, rfl, rfl, Nat.zero_le _, HR0.out.2.2, HG0.out, HR0.out.1, HR0.out.2.1, HB0.out⟩
            case round =>
              clear HG0 HB0 HR0
              obtain ⟨i, la, v2, l', rfl, rfl, hi, hl', G, hrs, hgt, bw⟩ := hrel
              by_cases hlt : i < k
              · have h3 : (i : Int) < (k : Int) := by omega
                cases l' with
                | nil => simp at hl'; omega
                | cons t l2 =>
                  have cH := radHear_any G 0 false t (by rw [plN_0]; rfl)
                  rw [plN_0, if_neg (by decide), cut0] at cH
                  have h4 : ¬ t.nm ≤ la := by have := hgt t (by simp); omega
                  have HQ : Hid (l2.length = k - (i + 1) ∧ Rs l2 ∧ (∀ s ∈ l2, t.nm < s.nm)) := ⟨by simp at hl'; omega, (List.pairwise_cons.1 hrs).2, fun s hs => (List.pairwise_cons.1 hrs).1 s hs⟩
                  have HGW : Hid (RdAt 57 B wr B v2 (t :: l2)) := G
                  have HBW0 : Hid (Below B w wr) := bw
                  clear G bw hl' hrs hgt
                  go_wp2_with (first
                    | (go_at_call 13; refine cH.mono ?_; rintro e x1 ⟨rfl, v', G1, t1⟩; obtain ⟨x2, hx2⟩ : ∃ zz, x1.alloc (.cells (tlA t) 42) = zz := ⟨_, rfl⟩; have bbx2 : Below x1.heap.size x1 x2 := (by rw [← hx2]; exact (Below.refl _ _).alloc (Nat.le_refl _) _); have zx2 : x2.heap[x1.heap.size]? = some (.cells (tlA t) 42 (0, 0)) := (by rw [← hx2]; exact World.alloc_heap_new _ _); have HG2 : Hid (RdAt 57 B x2 B v' l2) := G1.go bbx2; have HBW : Hid (Below B w x2) := (t1.below HGW.out HBW0.out).trans (bbx2.mono (by have := (t1.below HGW.out HBW0.out).size; have := HX.out; omega)); have HH2 : Hid (x1.alloc (.cells (tlA t) 42) = x2) := hx2; obtain ⟨bx, hbx⟩ : ∃ bx, x1.heap.size = bx := ⟨_, rfl⟩; have y3 : x2.cell? ⟨bx, 3, none⟩ = some (.int .i64 t.nm) := tl_nmT (hbx ▸ zx2); clear cH G1 t1 bbx2 hx2 zx2)
                    | (refine wpList_new rfl rfl 42 11 (.tmp 61) rfl rfl rfl rfl (tlA tl0) (tlA t) (zeroTele _) rfl rfl infoTele rfl (tlA_one _) ?_; rw [HH2.out, hbx]))
                  go_roundw
                  case rel => exact ⟨i + 1, t.nm, v', l2, by go_num, rfl, by omega, HQ.out.1, HG2.out, HQ.out.2.1, HQ.out.2.2, HBW.out⟩
                  case measure => simp [intOf]; omega
              · have h3 : ¬ (i : Int) < (k : Int) := by omega
                obtain rfl : l' = [] := List.eq_nil_of_length_eq_zero (by omega)
                have cl := radLen_any G
                clear G hrs hgt hl'
                go_wp2_with (first
                  | (go_at_call 19; refine cl.mono ?_; rintro e yw ⟨rfl, hyw⟩; rw [hyw]; clear hyw)
                  | (go_at_call 8; refine (awake20_any _).mono ?_; rintro e w9 ⟨rfl, b9⟩))
                go_ret
                exact ⟨rfl, bw.trans (b9.mono (by have := bw.size; have := HX.out; omega))⟩
          · clear g3
            go_wp2_with fail
            go_loopw [9, 10] (fun ca ci wq => ∃ (i : Nat) (la : Int) (v : Value) (l' : List Tl), ci = .int .i64 i ∧ ca = .int .i64 la ∧ i ≤ k ∧ l'.length = k - i ∧ RdAt 57 B wq B v l' ∧ Rs l' ∧ (∀ t ∈ l', la < t.nm) ∧ Below B w wq) (fun _ ci _ => k - (intOf ci).toNat)
            case atStart => exact ⟨0, 0, _, l, rfl, rfl, Nat.zero_le _, HR0.out.2.2, HG0.out, HR0.out.1, HR0.out.2.1, HB0.out⟩
            case round =>
              clear HG0 HB0 HR0
              obtain ⟨i, la, v2, l', rfl, rfl, hi, hl', G, hrs, hgt, bw⟩ := hrel
              by_cases hlt : i < k
              · have h3 : (i : Int) < (k : Int) := by omega
                cases l' with
                | nil => simp at hl'; omega
                | cons t l2 =>
                  have cH := radHear_any G 0 false t (by rw [plN_0]; rfl)
                  rw [plN_0, if_neg (by decide), cut0] at cH
                  have h4 : ¬ t.nm ≤ la := by have := hgt t (by simp); omega
                  have HQ : Hid (l2.length = k - (i + 1) ∧ Rs l2 ∧ (∀ s ∈ l2, t.nm < s.nm)) := ⟨by simp at hl'; omega, (List.pairwise_cons.1 hrs).2, fun s hs => (List.pairwise_cons.1 hrs).1 s hs⟩
                  have HGW : Hid (RdAt 57 B wr B v2 (t :: l2)) := G
                  have HBW0 : Hid (Below B w wr) := bw
                  clear G bw hl' hrs hgt
                  go_wp2_with (first
                    | (go_at_call 13; refine cH.mono ?_; rintro e x1 ⟨rfl, v', G1, t1⟩; obtain ⟨x2, hx2⟩ : ∃ zz, x1.alloc (.cells (tlA t) 42) = zz := ⟨_, rfl⟩; have bbx2 : Below x1.heap.size x1 x2 := (by rw [← hx2]; exact (Below.refl _ _).alloc (Nat.le_refl _) _); have zx2 : x2.heap[x1.heap.size]? = some (.cells (tlA t) 42 (0, 0)) := (by rw [← hx2]; exact World.alloc_heap_new _ _); have HG2 : Hid (RdAt 57 B x2 B v' l2) := G1.go bbx2; have HBW : Hid (Below B w x2) := (t1.below HGW.out HBW0.out).trans (bbx2.mono (by have := (t1.below HGW.out HBW0.out).size; have := HX.out; omega)); have HH2 : Hid (x1.alloc (.cells (tlA t) 42) = x2) := hx2; obtain ⟨bx, hbx⟩ : ∃ bx, x1.heap.size = bx := ⟨_, rfl⟩; have y3 : x2.cell? ⟨bx, 3, none⟩ = some (.int .i64 t.nm) := tl_nmT (hbx ▸ zx2); clear cH G1 t1 bbx2 hx2 zx2)
                    | (refine wpList_new rfl rfl 42 11 (.tmp 61) rfl rfl rfl rfl (tlA tl0) (tlA t) (zeroTele _) rfl rfl infoTele rfl (tlA_one _) ?_; rw [HH2.out, hbx]))
                  go_roundw
                  case rel => exact ⟨i + 1, t.nm, v', l2, by go_num, rfl, by omega, HQ.out.1, HG2.out, HQ.out.2.1, HQ.out.2.2, HBW.out⟩
                  case measure => simp [intOf]; omega
              · have h3 : ¬ (i : Int) < (k : Int) := by omega
                obtain rfl : l' = [] := List.eq_nil_of_length_eq_zero (by omega)
                have cl := radLen_any G
                clear G hrs hgt hl'
                go_wp2_with (first
                  | (go_at_call 19; refine cl.mono ?_; rintro e yw ⟨rfl, hyw⟩; rw [hyw]; clear hyw)
                  | (go_at_call 8; refine (awake20_any _).mono ?_; rintro e w9 ⟨rfl, b9⟩))
                go_ret
                exact ⟨rfl, bw.trans (b9.mono (by have := bw.size; have := HX.out; omega))⟩
end Go.Proofs.Ytdplacpdbknlgaa.Lk
