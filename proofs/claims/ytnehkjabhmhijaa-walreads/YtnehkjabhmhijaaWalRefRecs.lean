/-
  The chapter's own answer: the records in any bytes, and where they end.
-/
import Derived.Test.YtnehkjabhmhijaaWalRefNum
namespace Go.Proofs.Ytnehkjabhmhijaa.Wal
set_option linter.unusedVariables false
set_option linter.unusedSimpArgs false
open Go Go.RowKit Go.Shelf Go.Proofs
open Go.Proofs.Ytnehkjabhmhijaa.Disk (Row getD_in ret_int add_add DiskIs Kept St now setSt owns_row owns_same wpList_append_bytes)

theorem infoR : (Try.prog.info? 40).map (fun i => (i.zero, i.size, i.bytes)) = Option.some (Option.some (.agg #[.int .i64 0, .slice none 0 0]), 2, 32) := by kernel_rfl
def cellsR (ps : List (Nat × Piece)) : List Value := ps.flatMap fun p => [.int .i64 p.1, p.2.val]
theorem cellsR_snoc (ps : List (Nat × Piece)) (p : Nat × Piece) : cellsR (ps ++ [p]) = cellsR ps ++ [.int .i64 p.1, p.2.val] := by simp [cellsR]
structure Recs (B : Nat) (zs : List Int) (ms : List Nat) (v : Value) (wr : World) : Prop where
  ex : ∃ ps : List (Nat × Piece), wr.ownsRow B 40 2 v ms.length (cellsR ps) ∧ ps.map (fun p => (p.1, p.2.zs.length)) = places 0 ms ∧ ps.map (fun p => p.2.zs) = says zs 0 ms ∧ ∀ p ∈ ps, Fresh B wr p.2

theorem owns_rebase' {w : World} {b B : Nat} {e : TypeId} {size : Nat} {v : Value} {n : Nat} {xs : List Value} (h : w.ownsRow b e size v n xs) (hb : ∀ g, v.ownBlock = Option.some g → B ≤ g) : w.ownsRow B e size v n xs := by
  refine ⟨h.1, ?_⟩
  rcases h.2 with hn | ⟨g, cap, cur, e', hb', rest⟩
  · exact .inl hn
  · exact .inr ⟨g, cap, cur, e', hb g (by rw [e']; rfl), rest⟩
theorem fresh_other {w w' : World} {B : Nat} {p : Piece} {v : Value} {n : Nat} {xs : List Value} {o : Obj} (h : Fresh B w p) (hr : w.ownsRow B 40 2 v n xs) (hg : (w.alloc o).grownBy w' v.ownBlock) : Fresh B w' p := by
  refine ⟨owns_same (h.own.alloc o) (fun k hk => hg.block k ?_ ?_), h.small⟩
  · rcases h.own.2 with ⟨e, _⟩ | ⟨g, cap, cur, e, _, hg', _⟩
    · rw [e] at hk; cases hk
    · rw [e] at hk; cases hk
      have := (Array.getElem?_eq_some_iff.1 hg').1
      simp
      omega
  · intro e
    rcases h.own.2 with ⟨e', _⟩ | ⟨g, cap, cur, e', _, hg', _⟩
    · rw [e'] at hk; cases hk
    · rw [e'] at hk; cases hk
      rcases hr.2 with ⟨e2, _⟩ | ⟨g', cap', cur', e2, _, hg2, _⟩
      · rw [e2] at e; cases e
      · rw [e2] at e
        cases e
        rw [hg'] at hg2
        cases hg2
theorem fresh_later {w w' : World} {B : Nat} {p : Piece} (h : Fresh B w p) (hb : Below w.heap.size w w') : Fresh B w' p := ⟨owns_later h.own hb, h.small⟩

theorem wpList_append_R {w : World} {ops : Array Oper} {rest : List Oper} {o : Oper} {a : Act} {Q : Exit → Act → World → Prop} (hgd : o.guard = none) (s x : Operand)
    (ho : o.op = .call { callee := .builtin .append, args := #[s, x], argTypes := #[31, 31] }) (B : Nat) (v : Value) (n : Nat) (vs : List Value) (hs : a.eval s = v) (w0 : World) (va vb : Value)
    (hw : w = w0.alloc (.cells #[va, vb] 40)) (hown : w0.ownsRow B 40 2 v n vs) (hB : B ≤ w0.heap.size) (h1 : va.oneCell' = true) (h2 : vb.oneCell' = true)
    (hx : a.eval x = .slice (Option.some ⟨w0.heap.size, 0, none⟩) 1 1) (hb : n + 1 ≤ 16777216)
    (h : ∀ v' w', w'.ownsRow B 40 2 v' (n + 1) (vs ++ [va, vb]) → w.grownBy w' v.ownBlock → wpList Try.prog ops Q rest (a.put o.dst v') w') : wpList Try.prog ops Q (o :: rest) a w := by
  obtain ⟨i0, hi, hz0, hz1, hz2⟩ := info_parts infoR
  subst hw
  have hblk : (w0.alloc (.cells #[va, vb] 40)).heap[w0.heap.size]? = Option.some (.cells #[va, vb] 40) := World.alloc_heap_new w0 _
  refine wpList_append_own _ hgd s x 31 ho B 40 i0 (.agg #[.int .i64 0, .slice none 0 0]) 2 32 Try.underlying31 hi hz0 hz1 hz2 rfl (by decide) v n vs hs (hown.alloc _) ⟨w0.heap.size, 0, none⟩ 1 1 [va, vb] hx rfl (fun j u hj => ?_) (fun u hu => ?_) (by unfold maxLen; omega) (by omega) (by simp; omega) (fun v' w' ho' hg' _ => h v' w' ho' hg')
  · rw [Addr.add_lit, Nat.zero_add]
    unfold World.cell?
    rw [hblk]
    match j, hj with
    | 0, hj => simpa using hj
    | 1, hj => simpa using hj
    | j + 2, hj => simp at hj
  · rcases List.mem_cons.1 hu with rfl | hu
    · exact h1
    · rw [List.mem_singleton.1 hu]; exact h2

theorem first_some {b : List Int} (h : ¬ b.length < 8) (k : Nat) (hk : num (b.take 4) = k) (h1 : 1 ≤ k) (h2 : k ≤ 65536) (h3 : 8 + k ≤ b.length) (h4 : num ((b.drop 4).take 4) = sumOf (b.take 4) ((b.drop 8).take k)) : first b = Option.some k := by
  rw [first_sum h k hk h1 h2 h3, if_pos h4]
theorem first_bad {b : List Int} (h : ¬ b.length < 8) (k : Nat) (hk : num (b.take 4) = k) (h1 : 1 ≤ k) (h2 : k ≤ 65536) (h3 : 8 + k ≤ b.length) (h4 : num ((b.drop 4).take 4) ≠ sumOf (b.take 4) ((b.drop 8).take k)) : first b = none := by
  rw [first_sum h k hk h1 h2 h3, if_neg h4]
theorem Goes.end {zs : List Int} {ns ms rest : List Nat} (hd : Done zs ns) (hns : ns = ms ++ rest) (hf : first (zs.drop (stop 0 ms)) = none) : ms = ns := by
  have hg := ((Goes.append ms rest 0).1 (hns ▸ hd.1)).2
  cases rest with
  | nil => rw [hns, List.append_nil]
  | cons m rest => rw [hg.1] at hf; cases hf
theorem Goes.next {zs : List Int} {ns ms rest : List Nat} (hd : Done zs ns) (hns : ns = ms ++ rest) (k : Nat) (hf : first (zs.drop (stop 0 ms)) = Option.some k) : ∃ rest', rest = k :: rest' := by
  have hg := ((Goes.append ms rest 0).1 (hns ▸ hd.1)).2
  cases rest with
  | nil =>
    have := hd.2
    rw [hns, List.append_nil, hf] at this
    cases this
  | cons m rest =>
    have := hg.1
    rw [hf] at this
    cases this
    exact ⟨rest, rfl⟩

set_option maxRecDepth 100000 in
set_option maxHeartbeats 1500000 in
theorem refRecords_any (x : Addr) (len cap : Nat) (zs : List Int) (ns : List Nat) (w : World) (hr : Row w (Option.some x) len zs) (hd : Done zs ns) (hlc : len ≤ cap) (hcb : cap ≤ 9223372036854775807) (hlen : len ≤ 100000) :
    Calls Try.prog 8 #[.slice (Option.some x) len cap] w fun e w' => ∃ v, e = .returned (.tuple #[v, .int .i64 (stop 0 ns : Nat)]) ∧ Recs w.heap.size zs ns v w' ∧ Below w.heap.size w w' := by
  have hl := hr.len
  go_enter Try.func8, Try.ntmps8
  go_wp2
  go_loopw [4, 5] (fun v i wr => ∃ (ms rest : List Nat), ns = ms ++ rest ∧ i = .int .i64 (stop 0 ms : Nat) ∧ Recs w.heap.size zs ms v wr ∧ Below w.heap.size w wr) (fun _ i _ => len + 1 - (intOf i).toNat)
  case atStart => exact ⟨[], ns, rfl, rfl, ⟨[], World.ownsRow_nil _ _ _ _, rfl, rfl, fun p hp => by cases hp⟩, Below.refl _ _⟩
  case round =>
    obtain ⟨ms, rest, hns, rfl, hrec, bel⟩ := hrel
    have hle : stop 0 ms ≤ len := by
      have := Goes.le ms 0 (by omega) (((Goes.append ms rest 0).1 (hns ▸ hd.1)).1)
      omega
    have hcnt := stop_count ms 0
    have hEnd := fun hf => Goes.end hd hns hf
    have hNext := fun k hf => Goes.next hd hns k hf
    have hns' : Hid (ns = ms ++ rest) := hns
    clear hns
    have hrw := hr.after bel
    obtain ⟨at_, hat⟩ : ∃ n, stop 0 ms = n := ⟨_, rfl⟩
    rw [hat] at hle hcnt hEnd hNext ⊢
    obtain ⟨ps, ho, hp1, hp2, hfr⟩ := hrec.ex
    obtain ⟨va, vc, rfl⟩ := owns_slice ho
    have hdl : (zs.drop at_).length = len - at_ := by rw [List.length_drop, hl]
    have fin : first (zs.drop at_) = none → ∀ u, Below wr.heap.size wr u → ∃ v, Ending.returned (.tuple #[.slice va ms.length vc, .int .i64 at_]) = .returned (.tuple #[v, .int .i64 (stop 0 ns : Nat)]) ∧ Recs w.heap.size zs ns v u ∧ Below w.heap.size w u := by
      intro hf u hu
      have e := hEnd hf
      subst e
      exact ⟨_, by rw [hat], ⟨ps, owns_later ho hu, hp1, hp2, fun p hp => fresh_later (hfr p hp) hu⟩, bcat bel hu⟩
    by_cases h8 : len - at_ < 8
    · have t0 : ¬ (8 ≤ (len : Int) - (at_ : Int)) := by omega
      have hf := fin (first_short (b := zs.drop at_) (by omega)) wr (Below.refl _ _)
      go_wp2
      refine bodyPost_ret (results_tmp2 rfl _ _ _) rfl ?_
      exact hf
    · have t0 : 8 ≤ (len : Int) - (at_ : Int) := by omega
      have rP := hrw.part at_ 4 (by omega)
      have rQ := hrw.part (at_ + 4) 4 (by omega)
      have e4 : (zs.drop at_).take 4 = (zs.drop at_).take 4 := rfl
      have e44 : (zs.drop (at_ + 4)).take 4 = ((zs.drop at_).drop 4).take 4 := by rw [List.drop_drop]
      have hb4 := num_bd _ rP.len rP.small
      have hbQ := num_bd _ rQ.len rQ.small
      obtain ⟨k, hk⟩ := Int.eq_ofNat_of_zero_le hb4.1
      have c1 := refNumber_any (Option.some (x.add at_)) (cap - at_) _ wr rP
      rw [hk] at c1 hb4
      have tc : ¬ cap = at_ := by omega
      have tc1 : (at_ : Int) ≤ (cap : Int) := by omega
      have tc2 : (at_ : Int) + 4 ≤ (cap : Int) := by omega
      by_cases hbad : k < 1 ∨ 65536 < k ∨ len - at_ - 8 < k
      · have hf := fin (first_odd (b := zs.drop at_) (by omega) (by rw [hk]; omega))
        have go := fun (u : World) (hu : Below wr.heap.size wr u) => hf u hu
        clear hf
        by_cases g1 : k < 1
        · have u1 : (k : Int) < 1 := by omega
          go_wp2_with (go_at_call 26; refine c1.mono ?_; rintro e w1 ⟨rfl, b1⟩)
          refine bodyPost_ret (results_tmp2 rfl _ _ _) rfl ?_
          exact go w1 b1
        · have u1 : ¬ ((k : Int) < 1) := by omega
          by_cases g2 : 65536 < k
          · have u2 : (65536 : Int) < (k : Int) := by omega
            go_wp2_with (go_at_call 26; refine c1.mono ?_; rintro e w1 ⟨rfl, b1⟩)
            refine bodyPost_ret (results_tmp2 rfl _ _ _) rfl ?_
            exact go w1 b1
          · have u2 : ¬ ((65536 : Int) < (k : Int)) := by omega
            have u3 : (len : Int) - (at_ : Int) - 8 < (k : Int) := by omega
            go_wp2_with (go_at_call 26; refine c1.mono ?_; rintro e w1 ⟨rfl, b1⟩)
            refine bodyPost_ret (results_tmp2 rfl _ _ _) rfl ?_
            exact go w1 b1
      · have u1 : ¬ ((k : Int) < 1) := by omega
        have u2 : ¬ ((65536 : Int) < (k : Int)) := by omega
        have u3 : ¬ ((len : Int) - (at_ : Int) - 8 < (k : Int)) := by omega
        have rS := hrw.part (at_ + 8) k (by omega)
        have e8 : (zs.drop (at_ + 8)).take k = ((zs.drop at_).drop 8).take k := by rw [List.drop_drop]
        have hsb := sumOf_bd ((zs.drop at_).take 4) ((zs.drop (at_ + 8)).take k)
        have hN : num ((zs.drop (at_ + 4)).take 4) = sumOf ((zs.drop at_).take 4) ((zs.drop (at_ + 8)).take k) → first (zs.drop at_) = Option.some k := fun h => first_some (by omega) k hk (by omega) (by omega) (by omega) (by rw [← e44, ← e8]; exact h)
        have hB : num ((zs.drop (at_ + 4)).take 4) ≠ sumOf ((zs.drop at_).take 4) ((zs.drop (at_ + 8)).take k) → first (zs.drop at_) = none := fun h => first_bad (by omega) k hk (by omega) (by omega) (by omega) (by rw [← e44, ← e8]; exact h)
        have cQ := fun (u : World) (hu : Below wr.heap.size wr u) => refNumber_any (Option.some ⟨x.block, x.off + (at_ + 4), none⟩) (cap - (at_ + 4)) _ u (rQ.after hu)
        have hsm4 := rP.small
        have hsmS := rS.small
        have hlS := rS.len
        have cOf := fun (a' : Option Addr) (c : Nat) (u : World) (hu : Row u a' (4 + k) ((zs.drop at_).take 4 ++ (zs.drop (at_ + 8)).take k)) => Crc.refOf_any a' (4 + k) c _ u (crcRow hu) (by unfold maxLen; omega)
        have hq0 : Crc.u32 (Crc.more 0#32 ((zs.drop at_).take 4 ++ (zs.drop (at_ + 8)).take k)) = sumOf ((zs.drop at_).take 4) ((zs.drop (at_ + 8)).take k) := rfl
        rw [hq0] at cOf
        clear hq0
        have hsay : says zs 0 (ms ++ [k]) = says zs 0 ms ++ [(zs.drop (at_ + 8)).take k] := by rw [says_append, hat]; rfl
        have hplc : places 0 (ms ++ [k]) = places 0 ms ++ [(at_, k)] := by rw [places_append, hat]; rfl
        have hstp : stop 0 (ms ++ [k]) = at_ + (8 + k) := by rw [stop_snoc, hat]
        have v1 : (at_ : Int) + 8 + (k : Int) ≤ (cap : Int) := by omega
        have v2 : (at_ : Int) + 8 ≤ (cap : Int) := by omega
        have v3 : ¬ cap = at_ + 8 := by omega
        have v4 : ¬ cap = at_ + 4 := by omega
        have hms : ms.length ≤ 100000 := by omega
        have rP' : Row wr (Option.some (x.add at_)) (at_ + 4 - at_) ((zs.drop at_).take 4) := by rw [Nat.add_sub_cancel_left]; exact rP
        generalize (zs.drop at_).take 4 = Z4 at *
        generalize (zs.drop (at_ + 4)).take 4 = Z48 at *
        generalize (zs.drop (at_ + 8)).take k = ZS at *
        generalize hq : sumOf Z4 ZS = q at *
        generalize num Z48 = r at *
        by_cases hrq : q = r
        · subst hrq
          have hf := hN rfl
          obtain ⟨rest', rfl⟩ := hNext k hf
          have hlS' : ZS.length = k := hlS
          go_wp2_with (first
            | (at_builtin; refine wpList_append_R rfl (.tmp 62) (.tmp 67) rfl w.heap.size (.slice va ms.length vc) ms.length (cellsR ps) rfl w5 (.int .i64 at_) (.slice a5 k c5) rfl (owns_later ho b5) (by have := bel.size; have := b5.size; omega) rfl rfl rfl (by omega) ?_; intro v6 w6 o6 g6)
            | (at_builtin; refine wpList_append_bytes rfl (.const (.slice none 0 0)) (.tmp 64) rfl _ 0 [] rfl (of_nil _ _) (Option.some ⟨x.block, x.off + (at_ + 8), none⟩) k (cap - (at_ + 8)) ZS rfl (rS.after b4') (fun h => by cases h) (by omega) ?_; intro a5 c5 w5 o5 g5 t5; have b5 := b4'.grown g5 b4'.size (nil_blk _); simp only [Nat.zero_add, List.nil_append] at o5 t5 ⊢)
            | (go_at_call 26; refine (cQ w3 b3).mono ?_; rintro e w4 ⟨rfl, b4⟩; have b4' := bcat b3 b4)
            | (go_at_call 27; refine (cOf a3 d3 w3 (owns_row o3 (small_append hsm4 hsmS)).1).mono ?_; rintro e w9 ⟨rfl, hw9⟩; rw [hw9]; clear hw9)
            | (at_builtin; refine wpList_append_bytes rfl (.tmp 49) (.tmp 50) rfl _ 4 Z4 rfl o2 (Option.some ⟨x.block, x.off + (at_ + 8), none⟩) k (cap - (at_ + 8)) ZS rfl (rS.after b2) (fun h => by cases h) (by omega) ?_; intro a3 d3 w3 o3 g3 t3; have b3 := b2.grown g3 b2.size k2; simp only [Nat.add_sub_cancel_left] at o3 ⊢)
            | (at_builtin; refine wpList_append_bytes rfl (.const (.slice none 0 0)) (.tmp 48) rfl _ 0 [] rfl (of_nil _ _) (Option.some (x.add at_)) (at_ + 4 - at_) (cap - at_) Z4 rfl (rP'.after b1) (fun h => by cases h) (by omega) ?_; intro a2 d2 w2 o2 g2 t2; have b2 := b1.grown g2 b1.size (nil_blk _); have k2 := blk_step t2 (nil_blk wr.heap.size) b1.size; simp only [Nat.zero_add, List.nil_append, Nat.add_sub_cancel_left] at o2 k2 ⊢)
            | (go_at_call 26; refine c1.mono ?_; rintro e w1 ⟨rfl, b1⟩))
          go_roundw
          case rel =>
            refine ⟨ms ++ [k], rest', by rw [hns'.out]; simp, by rw [hstp]; go_num, ⟨ps ++ [(at_, ⟨a5, c5, ZS⟩)], ?_, ?_, ?_, fun p hp => ?_⟩, ?_⟩
            · have hval : Piece.val ⟨a5, c5, ZS⟩ = .slice a5 k c5 := by unfold Piece.val; rw [hlS']
              rw [cellsR_snoc, hval, List.length_append]
              exact o6
            · rw [List.map_append, hp1, hplc]
              simp [hlS']
            · rw [List.map_append, hp2, hsay]
              rfl
            · have hor := owns_later ho b5
              rcases List.mem_append.1 hp with hp | hp
              · exact fresh_other (fresh_later (hfr p hp) b5) hor g6
              · rw [List.mem_singleton.1 hp]
                refine fresh_other (p := ⟨a5, c5, ZS⟩) ⟨?_, hsmS⟩ hor g6
                have hval : Piece.val ⟨a5, c5, ZS⟩ = .slice a5 k c5 := by unfold Piece.val; rw [hlS']
                show World.ownsRow _ _ 5 1 (Piece.val ⟨a5, c5, ZS⟩) ZS.length _
                rw [hval, hlS']
                exact owns_rebase' o5 (blk_step t5 (nil_blk w.heap.size) (by have := bel.size; have := b4'.size; omega))
            · have := bel.size
              have := b5.size
              exact ((bcat bel b5).alloc (by omega) _).grown g6 (by simp; omega) (fun g hg => row_from ho g hg)
          case measure => simp [intOf]; omega
        · have x0 : (q == r) = false := by rw [beq_eq_false_iff_ne]; exact hrq
          have hf := fin (hB (fun h => hrq h.symm))
          go_wp2_with (first
            | (go_at_call 26; refine (cQ w3 b3).mono ?_; rintro e w4 ⟨rfl, b4⟩; have b4' := bcat b3 b4)
            | (go_at_call 27; refine (cOf a3 d3 w3 (owns_row o3 (small_append hsm4 hsmS)).1).mono ?_; rintro e w9 ⟨rfl, hw9⟩; rw [hw9]; clear hw9)
            | (at_builtin; refine wpList_append_bytes rfl (.tmp 49) (.tmp 50) rfl _ 4 Z4 rfl o2 (Option.some ⟨x.block, x.off + (at_ + 8), none⟩) k (cap - (at_ + 8)) ZS rfl (rS.after b2) (fun h => by cases h) (by omega) ?_; intro a3 d3 w3 o3 g3 t3; have b3 := b2.grown g3 b2.size k2; simp only [Nat.add_sub_cancel_left] at o3 ⊢)
            | (at_builtin; refine wpList_append_bytes rfl (.const (.slice none 0 0)) (.tmp 48) rfl _ 0 [] rfl (of_nil _ _) (Option.some (x.add at_)) (at_ + 4 - at_) (cap - at_) Z4 rfl (rP'.after b1) (fun h => by cases h) (by omega) ?_; intro a2 d2 w2 o2 g2 t2; have b2 := b1.grown g2 b1.size (nil_blk _); have k2 := blk_step t2 (nil_blk wr.heap.size) b1.size; simp only [Nat.zero_add, List.nil_append, Nat.add_sub_cancel_left] at o2 k2 ⊢)
            | (go_at_call 26; refine c1.mono ?_; rintro e w1 ⟨rfl, b1⟩))
          refine bodyPost_ret (results_tmp2 rfl _ _ _) rfl ?_
          exact hf w4 b4'
end Go.Proofs.Ytnehkjabhmhijaa.Wal
