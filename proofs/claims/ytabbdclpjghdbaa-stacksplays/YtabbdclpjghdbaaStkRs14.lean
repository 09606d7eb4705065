/-
  The chapter's Bins.
-/
import Derived.Test.YtabbdclpjghdbaaStkRs13
import Derived.BigQuiet
namespace Go.Proofs.Ytabbdclpjghdbaa.Stk
set_option linter.unusedVariables false
set_option linter.unusedSimpArgs false
open Go Go.RowKit Go.Shelf Go.Proofs Go.Proofs.Ytabbdclpjghdbaa.Grid
attribute [local go_sem] Oper.semAt_some

structure BiR (w : World) (K : Rk) (cs : Array Value) (vc : Value) (qs : List Pile) (ls : List Int) (L : List Int) (v : Value) (wr : World) : Prop where
  st : RsAt wr K cs vc qs ls
  below : Below w.heap.size w wr
  own : wr.ownsRow w.heap.size 3 1 v L.length (rowL intL L)
theorem BiR.go {w : World} {K : Rk} {cs : Array Value} {vc : Value} {qs : List Pile} {ls L : List Int} {v : Value} {wr u : World} (h : BiR w K cs vc qs ls L v wr) (hb : Below wr.heap.size wr u) : BiR w K cs vc qs ls L v u := ⟨h.st.go hb, bcat h.below hb (Nat.le_refl _), owns_go h.own hb⟩
theorem BiR.app {w : World} {K : Rk} {cs : Array Value} {vc : Value} {qs : List Pile} {ls L L' : List Int} {v v' : Value} {wr u : World} (h : BiR w K cs vc qs ls L v wr) (S0 : RsAt w K cs vc qs ls) (g : wr.grownBy u v.ownBlock) (o : u.ownsRow w.heap.size 3 1 v' L'.length (rowL intL L')) : BiR w K cs vc qs ls L' v' u := by
  have hv := fun k (hk : v.ownBlock = some k) => (h.own.lt k hk).1
  have hb : Below w.heap.size w u := h.below.grown g h.below.size hv
  exact ⟨S0.go hb, hb, o⟩
/- The list while it is being sorted. -/
structure Sb (w : World) (L0 : List Int) (g cap n : Nat) (M : List Int) (wr : World) : Prop where
  own : wr.ownsRow w.heap.size 3 1 (.slice (some ⟨g, 0, none⟩) n cap) n (rowL intL M)
  len : M.length = n
  perm : M.Perm L0
  below : Below w.heap.size w wr
theorem own_setI {w : World} {base : Nat} {e : TypeId} {size g n cap : Nat} {xs : List Value} (h : w.ownsRow base e size (.slice (some ⟨g, 0, none⟩) n cap) n xs) {i : Nat} (u : Value) : (w.setCell ⟨g, i, none⟩ u).ownsRow base e size (.slice (some ⟨g, 0, none⟩) n cap) n (xs.set i u) := by
  refine ⟨by rw [List.length_set]; exact h.1, ?_⟩
  rcases h.2 with ⟨hv, _⟩ | ⟨g', cap', cur, hv, hb, hg, h3, h4, h5, h6⟩
  · cases hv
  · cases hv
    refine .inr ⟨g, cap, cur.setIfInBounds i u, rfl, hb, heap_setCell_same w g i cur e u hg, h3, h4, by simp [h5], ?_⟩
    rw [Array.toList_setIfInBounds, List.take_set, h6]
theorem rowI (M : List Int) : rowL intL M = M.map (Value.int .i64) := by
  induction M with
  | nil => rfl
  | cons a l ih => rw [List.map_cons, ← ih]; rfl
section
variable {w wr u : World} {L0 M : List Int} {g cap n : Nat}
theorem Sb.go (h : Sb w L0 g cap n M wr) (hb : Below wr.heap.size wr u) : Sb w L0 g cap n M u := ⟨owns_go h.own hb, h.len, h.perm, bcat h.below hb (Nat.le_refl _)⟩
theorem Sb.cell (h : Sb w L0 g cap n M wr) {k : Nat} (hk : k < n) : wr.cell? ⟨g, k, none⟩ = some (.int .i64 (M.getD k 0)) := by
  rw [h.own.cellAt k (by omega), rowI, List.getElem?_map, List.getElem?_eq_getElem (by rw [h.len]; exact hk), List.getD_eq_getElem?_getD, List.getElem?_eq_getElem (by rw [h.len]; exact hk)]
  rfl
theorem Sb.froz (h : Sb w L0 g cap n M wr) (o : Nat) : wr.frozen? ⟨g, o, none⟩ = false := by
  rcases h.own.2 with ⟨hv, _⟩ | ⟨g', cap', cur, hv, _, hg, _⟩
  · cases hv
  · cases hv
    simp [World.frozen?, hg]
theorem Sb.sw (h : Sb w L0 g cap n M wr) {k : Nat} (hk : k + 1 < n) : Sb w L0 g cap n (swK k M) ((wr.setCell ⟨g, k + 1, none⟩ (.int .i64 (M.getD k 0))).setCell ⟨g, k, none⟩ (.int .i64 (M.getD (k + 1) 0))) := by
  have hg := (h.own.lt g rfl).1
  refine ⟨?_, by rw [sw_len]; exact h.len, (sw_perm (by rw [h.len]; exact hk)).trans h.perm, (h.below.setCell (p := ⟨g, k + 1, none⟩) hg _).setCell (p := ⟨g, k, none⟩) hg _⟩
  have o := own_setI (own_setI h.own (i := k + 1) (.int .i64 (M.getD k 0))) (i := k) (.int .i64 (M.getD (k + 1) 0))
  rw [rowI, ← List.map_set, ← List.map_set] at o
  rw [rowI]
  exact o
end
set_option maxRecDepth 100000 in
set_option maxHeartbeats 2000000 in
theorem rbins_any {K : Rk} {cs : Array Value} {vc : Value} {qs : List Pile} {ls : List Int} {w : World} (h : RsAt w K cs vc qs ls) : Calls Try.prog 49 #[.pointer (some ⟨K.s, 0, none⟩)] w fun e w' => ∃ v M, e = .returned v ∧ w'.ownsRow w.heap.size 3 1 v M.length (rowL intL M) ∧ M.Pairwise (· ≤ ·) ∧ M.Perm (allB qs ls) ∧ Below w.heap.size w w' := by
  have hN := h.many
  have hM := h.few
  have hfl := fun k => flatK_len h.small k
  have HS : Hid (RsAt w K cs vc qs ls) := h
  have y2 := h.c16
  obtain ⟨av, capv, hvc, hav⟩ := h.form
  subst hvc
  have HAV : Hid (∀ i, i < qs.length → av = some ⟨K.rb, 0, none⟩) := hav
  obtain ⟨N, hNN⟩ : ∃ N, qs.length = N := ⟨_, rfl⟩
  have HN : Hid (qs.length = N) := hNN
  obtain ⟨M, hMM⟩ : ∃ M, ls.length = M := ⟨_, rfl⟩
  have HM : Hid (ls.length = M) := hMM
  have HB0 : Hid (BiR w K cs (.slice av qs.length capv) qs ls (flatK qs 0) (.slice none 0 0) w) := ⟨h, Below.refl _ _, World.ownsRow_nil _ _ _ _⟩
  rw [hNN] at hN y2 HB0 HS
  rw [hMM] at hM
  clear hNN hMM h hav
  have HFL : Hid (∀ k, (flatK qs k).length ≤ 8 * k) := hfl
  clear hfl
  obtain ⟨vc, hvc⟩ : ∃ vc, vc = Value.slice av N capv := ⟨_, rfl⟩
  have HVC : Hid (vc = Value.slice av N capv) := hvc
  rw [← hvc] at HB0 HS
  clear hvc
  go_enter Try.func49, Try.ntmps49
  go_wp2
  go_loopw [3, 4] (fun v i wq => ∃ k : Nat, k ≤ N ∧ i = .int .i64 k ∧ Hid (BiR w K cs vc qs ls (flatK qs k) v wq)) (fun _ i _ => N - (intOf i).toNat)
  case atStart => exact ⟨0, Nat.zero_le _, rfl, HB0⟩
  case round =>
    clear HB0 y2
    obtain ⟨k, hk, rfl, HB⟩ := hrel
    have k16 := HB.out.st.c16
    rw [HVC.out] at k16
    by_cases hlt : k < N
    · obtain ⟨q, hq⟩ : ∃ q, qs[k]? = some q := ⟨_, List.getElem?_eq_getElem (by rw [HN.out]; exact hlt)⟩
      have kv := HB.out.st.pv hq
      obtain rfl := HAV.out k (by rw [HN.out]; exact hlt)
      have hsm := HB.out.st.small k q hq
      have HNx : Hid (flatK qs (k + 1) = flatK qs k ++ q.2.2) := flatK_next hq
      have HL : Hid (ListAt 1 intEl (RB K qs) q.2.2 q.2.1 wr) := HB.out.st.ints hq
      obtain ⟨a, cap, ev⟩ := (HB.out.st.pl k q hq).sl
      rw [ev] at kv HL
      obtain ⟨pn, hpn⟩ : ∃ n, q.2.2.length = n := ⟨_, rfl⟩
      have HPN : Hid (q.2.2.length = pn) := hpn
      rw [hpn] at kv HL hsm
      have hl8 := HFL.out k
      clear hpn ev hq
      go_wp2_with (first
        | (at_builtin; refine wpList_app kindInt rfl _ _ rfl w.heap.size u3 (flatK qs k) rfl HB.out.own (RB K qs) _ q.2.2 rfl HL.out (by rw [HPN.out]; omega) (by rw [HPN.out]; unfold maxLen; omega) HB.out.below.size ?_; intro v9 w9 own9 g9 at9; have HB9 : Hid (BiR w K cs vc qs ls (flatK qs (k + 1)) v9 w9) := HB.out.app HS.out g9 (by rw [HNx.out]; exact own9)))
      go_roundw
      case rel => exact ⟨k + 1, by omega, by go_num, HB9⟩
      case measure => simp [intOf]; omega
    · obtain rfl : N = k := by omega
      have HB1 : Hid (BiR w K cs vc qs ls (flatK qs N ++ (ls.take 0).filter (fun z => z != 0)) u3 wr) := by
        show BiR w K cs vc qs ls (flatK qs N ++ (ls.take 0).filter (fun z => z != 0)) u3 wr
        rw [List.take_zero, List.filter_nil, List.append_nil]
        exact HB.out
      clear HB
      go_wp2
      clear k16
      go_loopw [3, 5] (fun v i wq => ∃ k : Nat, k ≤ M ∧ i = .int .i64 k ∧ Hid (BiR w K cs vc qs ls (flatK qs N ++ (ls.take k).filter (fun z => z != 0)) v wq)) (fun _ i _ => M - (intOf i).toNat)
      case atStart => exact ⟨0, Nat.zero_le _, rfl, HB1⟩
      case round =>
        clear HB1
        obtain ⟨k, hk, rfl, HB⟩ := hrel
        have k17 := HB.out.st.c17
        rw [HM.out] at k17
        have hl8 := HFL.out N
        have hll : ((ls.take k).filter (fun z => z != 0)).length ≤ k := Nat.le_trans (List.length_filter_le _ _) (by rw [List.length_take]; omega)
        by_cases hlt : k < M
        · have hkl : k < ls.length := by rw [HM.out]; exact hlt
          have yl := HB.out.st.lc hkl
          have HNx : Hid ((ls.take (k + 1)).filter (fun z => z != 0) = (ls.take k).filter (fun z => z != 0) ++ if ls.getD k 0 != 0 then [ls.getD k 0] else []) := by
            show (ls.take (k + 1)).filter (fun z => z != 0) = _
            rw [List.take_add_one, List.getElem?_eq_getElem hkl, List.filter_append, List.getD_eq_getElem?_getD, List.getElem?_eq_getElem hkl]
            congr 1
            simp only [Option.toList_some, Option.getD_some]
            rw [List.filter_cons, List.filter_nil]
          generalize ls.getD k 0 = z at *
          by_cases hz : z = 0
          · subst hz
            have HB9 : Hid (BiR w K cs vc qs ls (flatK qs N ++ (ls.take (k + 1)).filter (fun z => z != 0)) u3 wr) := by
              show BiR w K cs vc qs ls (flatK qs N ++ (ls.take (k + 1)).filter (fun z => z != 0)) u3 wr
              rw [HNx.out]
              simp only [bne_self_eq_false, Bool.false_eq_true, if_false, List.append_nil]
              exact HB.out
            go_wp2
            go_roundw
            case rel => exact ⟨k + 1, by omega, by go_num, HB9⟩
            case measure => simp [intOf]; omega
          · have hz2 : (z != 0) = true := by rw [bne_iff_ne]; exact hz
            rw [hz2] at HNx
            simp only [if_true] at HNx
            have HO := fun o => HB.out.go (below_new (Below.refl wr.heap.size wr) o)
            obtain ⟨FL, hFL⟩ : ∃ l, flatK qs N ++ (ls.take k).filter (fun z => z != 0) = l := ⟨_, rfl⟩
            have hfl : FL.length ≤ 8 * N + k := by rw [← hFL, List.length_append]; omega
            have HN2 : Hid (flatK qs N ++ (ls.take (k + 1)).filter (fun z => z != 0) = FL ++ [z]) := by
              show flatK qs N ++ (ls.take (k + 1)).filter (fun z => z != 0) = FL ++ [z]
              rw [HNx.out, ← List.append_assoc, hFL]
            rw [hFL] at HO
            have L1 := list_one (f := intL) (S := 1) wr z 3 rfl
            clear hFL HB HNx hl8 hll
            go_wp2_with (at_builtin; refine wpList_app kindInt rfl _ _ rfl w.heap.size u3 FL rfl (HO _).own (fun b => b = wr.heap.size) _ [z] rfl L1 (by simp; omega) (by unfold maxLen; simp; omega) (HO _).below.size ?_; intro v9 w9 own9 g9 at9; have HB9 : Hid (BiR w K cs vc qs ls (flatK qs N ++ (ls.take (k + 1)).filter (fun z => z != 0)) v9 w9) := (HO _).app HS.out g9 (by rw [HN2.out]; exact own9))
            go_roundw
            case rel => exact ⟨k + 1, by omega, by go_num, HB9⟩
            case measure => simp [intOf]; omega
        · obtain rfl : M = k := by omega
          have HE : Hid (flatK qs N ++ (ls.take M).filter (fun z => z != 0) = allB qs ls) := by
            show flatK qs N ++ (ls.take M).filter (fun z => z != 0) = allB qs ls
            unfold flatK allB
            rw [← HN.out, ← HM.out, List.take_length, List.take_length]
          have hlen : (allB qs ls).length ≤ 4096 := by rw [← HE.out, List.length_append]; omega
          rw [HE.out] at HB
          have hbl := HB.out.below
          have hown := HB.out.own
          clear HB HE hl8 hll HFL
          obtain ⟨L0, hL0⟩ : ∃ L0, allB qs ls = L0 := ⟨_, rfl⟩
          have HL0 : Hid (allB qs ls = L0) := hL0
          rw [hL0] at hlen hown
          clear hL0
          rcases hown.2 with ⟨rfl, h0⟩ | ⟨g, cap, _, rfl, _, _, hcap, hcm, _, _⟩
          · have hnil : L0 = [] := List.eq_nil_of_length_eq_zero h0
            subst hnil
            clear hown
            go_wp2
            go_loopw [6] (fun i wq => i = .int .i64 1 ∧ wq = wr) (fun _ _ => 0)
            case atStart => exact ⟨rfl, rfl⟩
            case round =>
              obtain ⟨rfl, rfl⟩ := hrel
              go_wp2
              go_ret
              exact ⟨_, [], rfl, World.ownsRow_nil _ _ _ _, List.Pairwise.nil, by rw [HL0.out], hbl⟩
          · obtain ⟨n, hn⟩ : ∃ n, L0.length = n := ⟨_, rfl⟩
            have HS0 : Hid (Sb w L0 g cap n L0 wr) := ⟨hn ▸ hown, hn, List.Perm.refl _, hbl⟩
            rw [hn] at hlen hcap ⊢
            clear hown hn hbl
            go_wp2
            clear k17
            go_loopw [6] (fun v wq => ∃ (i : Nat) (M : List Int), 1 ≤ i ∧ (i ≤ n ∨ i = 1) ∧ v = .int .i64 i ∧ Hid (Sb w L0 g cap n M wq) ∧ Hid (So i M)) (fun v _ => n + 1 - (intOf v).toNat)
            case atStart => exact ⟨1, L0, Nat.le_refl _, Or.inr rfl, by simp, HS0, fun a b h1 h2 => by omega⟩
            case round =>
              clear HS0
              obtain ⟨i, M1, hi1, hi2, rfl, HQ, HO⟩ := hrel
              by_cases hlt : i < n
              · have HU : Hid (UpK i i M1) := so_up HO.out
                go_wp2_with fail
                go_loopw [7] (fun v wq => ∃ (k : Nat) (M : List Int), k ≤ i ∧ v = .int .i64 k ∧ Hid (Sb w L0 g cap n M wq) ∧ Hid (UpK i k M)) (fun v _ => (intOf v).toNat)
                case atStart => exact ⟨i, M1, Nat.le_refl _, rfl, HQ, HU⟩
                case round =>
                  clear HQ HO HU
                  obtain ⟨k, M2, hki, rfl, HQ, HU⟩ := hrel
                  by_cases hk0 : k = 0
                  · subst hk0
                    have HO2 : Hid (So (i + 1) M2) := up_zero HU.out
                    have HQ2 := HQ
                    go_wp2_with fail
                    go_quiet (fail)
                    go_wp2
                    go_roundw
                    case rel => exact ⟨i + 1, M2, by omega, by omega, by go_num, HQ2.out.go (by first | exact (Below.refl _ _).drew | exact below_drewN (Below.refl _ _) _), HO2⟩
                    case measure => simp [intOf]; omega
                  · obtain ⟨j, rfl⟩ : ∃ j, k = j + 1 := ⟨k - 1, by omega⟩
                    have y1 := HQ.out.cell (k := j + 1) (by omega)
                    have y0 := HQ.out.cell (k := j) (by omega)
                    have f1 := HQ.out.froz (j + 1)
                    have f0 := HQ.out.froz j
                    have e9 : decide ((0 : Int) < (j : Int) + 1) = true := decide_eq_true (by omega)
                    by_cases hlt2 : M2.getD (j + 1) 0 < M2.getD j 0
                    · have HQ2 : Hid (∀ u, Below wr.heap.size wr u → Sb w L0 g cap n (swK j M2) ((u.setCell ⟨g, j + 1, none⟩ (.int .i64 (M2.getD j 0))).setCell ⟨g, j, none⟩ (.int .i64 (M2.getD (j + 1) 0)))) := fun u b => (HQ.out.go b).sw (by omega)
                      have HU2 : Hid (UpK i j (swK j M2)) := up_step HU.out hki (by rw [HQ.out.len]; exact hlt) hlt2
                      generalize M2.getD (j + 1) 0 = p at *
                      generalize M2.getD j 0 = q at *
                      have e1 : decide (p < q) = true := decide_eq_true hlt2
                      clear HQ HU
                      go_wp2_with fail
                      go_quiet (fail)
                      go_wp2
                      go_roundw
                      case rel => exact ⟨j, swK j M2, by omega, by go_num, HQ2.out _ (by first | exact (Below.refl _ _).drew | exact below_drewN (Below.refl _ _) _), HU2⟩
                      case measure => simp [intOf]
                    · have HO2 : Hid (So (i + 1) M2) := up_stop HU.out hki hlt2
                      generalize M2.getD (j + 1) 0 = p at *
                      generalize M2.getD j 0 = q at *
                      have e1 : decide (p < q) = false := decide_eq_false hlt2
                      have HQ2 := HQ
                      clear HQ HU
                      go_wp2_with fail
                      go_quiet (fail)
                      go_wp2
                      go_roundw
                      case rel => exact ⟨i + 1, M2, by omega, by omega, by go_num, HQ2.out.go (by first | exact (Below.refl _ _).drew | exact below_drewN (Below.refl _ _) _), HO2⟩
                      case measure => simp [intOf]; omega
              · have HE : Hid (So n M1) := fun a b h1 h2 => HO.out a b h1 (by omega)
                have h3 := HQ.out.own
                have h4 := HQ.out.len
                have h5 := HQ.out.perm
                have h6 := HQ.out.below
                clear HQ HO
                go_wp2
                go_ret
                exact ⟨_, M1, rfl, by rw [h4]; exact h3, so_pair (by rw [h4]; exact HE.out), by rw [HL0.out]; exact h5, h6⟩
end Go.Proofs.Ytabbdclpjghdbaa.Stk
