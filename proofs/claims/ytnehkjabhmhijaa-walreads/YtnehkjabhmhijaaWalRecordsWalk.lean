/-
  WalRecords: the records in any bytes, each with its place; broken off anywhere, and gone through again.
-/
import Derived.Test.YtnehkjabhmhijaaWalRound
namespace Go.Proofs.Ytnehkjabhmhijaa.Wal
set_option linter.unusedVariables false
set_option linter.unusedSimpArgs false
open Go Go.RowKit Go.Shelf Go.Proofs
open Go.Proofs.Ytnehkjabhmhijaa.Disk (Row getD_in ret_int add_add DiskIs Kept St now setSt owns_row owns_same)

theorem place_upto (v : Int) (N : Nat) : ∃ n : Nat, Crc.place v ((N : Int) + 1) = (n : Int) ∧ n ≤ N := by
  have h := Crc.place_bd v ((N : Int) + 1) (by omega)
  obtain ⟨u, hu⟩ := Int.eq_ofNat_of_zero_le h.1
  exact ⟨u, hu, by omega⟩
theorem eql_nil (u : World) (p : Value) : (binOp .eql 35 (.func (.func 28) #[] #[p]) .nilFunc).run Try.prog u = .ok (.bool false) u := by kernel_rfl
theorem round_from (w7 wr : World) (n : Nat) (hb : Below w7.heap.size w7 wr) (B0 WB RB N vc len cap : Nat) (va a : Option Addr) (zs : List Int) (ns : List Nat) (hd : Done zs ns) (hns : ns.length = N) (hN : N ≤ 100000) (hn : n ≤ N)
    (hB0 : w7.cell? ⟨B0, 0, none⟩ = Option.some (.slice a len cap)) (hB0l : B0 < w7.heap.size) (hr : Row w7 a len zs) (base : Nat) (how : w7.ownsRow base 5 1 (.slice a len cap) len (zs.map (Value.int .u8))) (hlen : len ≤ 100000)
    (hWB : Boxed w7 WB 31 (.slice va N vc)) (hrec : Recs RB zs ns (.slice va N vc) w7) :
    Calls Try.prog 28 #[.func (.func 12) #[] #[.pointer (Option.some ⟨wr.heap.size + 1 + 1, 0, none⟩), .pointer (Option.some ⟨wr.heap.size + 1, 0, none⟩), .pointer (Option.some ⟨WB, 0, none⟩), .pointer (Option.some ⟨wr.heap.size, 0, none⟩)], .pointer (Option.some ⟨B0, 0, none⟩)]
      (((wr.alloc (.cells #[.int .i64 (n : Int)] 3)).alloc (.cells #[.int .i64 0] 3)).alloc (.cells #[.bool true] 4)) fun e V' => (∃ v, e = .returned v) ∧ Below w7.heap.size w7 V' ∧ V'.cell? ⟨wr.heap.size + 1 + 1, 0, none⟩ = Option.some (.bool true) ∧
      ∃ k : Nat, V'.cell? ⟨wr.heap.size + 1, 0, none⟩ = Option.some (.int .i64 k) ∧ V'.cell? ⟨wr.heap.size, 0, none⟩ = Option.some (.int .i64 n) ∧ V'.cell? ⟨WB, 0, none⟩ = Option.some (.slice va N vc) ∧ (k = n ∨ (n = 0 ∧ k = 1 ∧ 1 ≤ N)) := by
  have e1 : (wr.alloc (.cells #[.int .i64 (n : Int)] 3)).heap.size = wr.heap.size + 1 := by simp
  have e2 : ((wr.alloc (.cells #[.int .i64 (n : Int)] 3)).alloc (.cells #[.int .i64 0] 3)).heap.size = wr.heap.size + 1 + 1 := by simp
  have x1 : Boxed (((wr.alloc (.cells #[.int .i64 (n : Int)] 3)).alloc (.cells #[.int .i64 0] 3)).alloc (.cells #[.bool true] 4)) wr.heap.size 3 (.int .i64 n) := ((Boxed.new wr 3 (.int .i64 (n : Int))).alloc _).alloc _
  have x2 : Boxed (((wr.alloc (.cells #[.int .i64 (n : Int)] 3)).alloc (.cells #[.int .i64 0] 3)).alloc (.cells #[.bool true] 4)) (wr.heap.size + 1) 3 (.int .i64 0) := by
    have := (Boxed.new (wr.alloc (.cells #[.int .i64 (n : Int)] 3)) 3 (.int .i64 0)).alloc (.cells #[.bool true] 4)
    rw [e1] at this
    exact this
  have x3 : Boxed (((wr.alloc (.cells #[.int .i64 (n : Int)] 3)).alloc (.cells #[.int .i64 0] 3)).alloc (.cells #[.bool true] 4)) (wr.heap.size + 1 + 1) 4 (.bool true) := by
    have := Boxed.new ((wr.alloc (.cells #[.int .i64 (n : Int)] 3)).alloc (.cells #[.int .i64 0] 3)) 4 (.bool true)
    rw [e2] at this
    exact this
  have bV : Below w7.heap.size w7 (((wr.alloc (.cells #[.int .i64 (n : Int)] 3)).alloc (.cells #[.int .i64 0] 3)).alloc (.cells #[.bool true] 4)) := ((hb.alloc hb.size _).alloc (by rw [e1]; have := hb.size; omega) _).alloc (by rw [e2]; have := hb.size; omega) _
  have sV : (((wr.alloc (.cells #[.int .i64 (n : Int)] 3)).alloc (.cells #[.int .i64 0] 3)).alloc (.cells #[.bool true] 4)).heap.size = wr.heap.size + 1 + 1 + 1 := by simp
  generalize ((wr.alloc (.cells #[.int .i64 (n : Int)] 3)).alloc (.cells #[.int .i64 0] 3)).alloc (.cells #[.bool true] 4) = V at *
  have hs := hb.size
  refine (round_any V B0 (wr.heap.size + 1 + 1) (wr.heap.size + 1) WB wr.heap.size RB n N vc len cap va a zs ns hd hns hN hn (by omega) ((bV.cell (p := ⟨B0, 0, none⟩) hB0l).trans hB0) (hr.after bV) base (owns_later how bV) hlen (by omega) (by omega) x3 x2 (boxed_after hWB bV) x1 (hrec.later bV)).mono ?_
  rintro e V' ⟨hv, ht, y1, k, y2, hk⟩
  have hWl := hWB.lt
  refine ⟨hv, ⟨ht.os.trans bV.os, ht.tape.trans bV.tape, ht.output.trans bV.output, Nat.le_trans bV.size ht.size, fun q hq => (ht.block q (by omega) (fun c => Or.elim c (fun h => by omega) (fun h => by omega))).trans (bV.block q hq)⟩, y1.cell, k, y2.cell, ?_, ?_, hk⟩
  · exact (box_turn x1 ht (fun c => Or.elim c (fun h => by omega) (fun h => by omega))).cell
  · exact (box_turn (boxed_after hWB bV) ht (fun c => Or.elim c (fun h => by omega) (fun h => by omega))).cell
theorem recs_form {B N : Nat} {zs : List Int} {ns : List Nat} {v : Value} {w : World} (h : Recs B zs ns v w) (hN : ns.length = N) : ∃ va vc, v = .slice va N vc := by
  obtain ⟨ps, ho, _⟩ := h.ex
  rw [hN] at ho
  rcases ho.2 with ⟨e, h0⟩ | ⟨g, cap, cur, e, _⟩
  · exact ⟨none, 0, by rw [e, h0]⟩
  · exact ⟨_, cap, e⟩
set_option maxRecDepth 100000 in
set_option maxHeartbeats 8000000 in
theorem records_all (a : Option Addr) (len cap : Nat) (zs : List Int) (most : Int) (w : World) (hr : Row w a len zs) (h0 : a = none → len = 0 ∧ cap = 0) (hlc : len ≤ cap) (hcb : cap ≤ 9223372036854775807) :
    Calls Try.prog 3 #[.slice a len cap, .int .i64 most] w fun e w' => e = .returned (.bool true) ∧ Below w.heap.size w w' := by
  have cW := awake_any
  have hl := hr.len
  by_cases hbig : 100000 < len
  · have t0 : (100000 : Int) < (len : Int) := by omega
    go_enter Try.func3, Try.ntmps3
    go_wp2_with (first
      | (go_at_call 5; refine (cW w1).mono ?_; rintro e w2 ⟨rfl, b2⟩)
      | (go_at_call 5; refine (cW w).mono ?_; rintro e w1 ⟨rfl, b1⟩))
    go_ret
    exact ⟨rfl, bcat b1 b2⟩
  · have t0 : ¬ ((100000 : Int) < (len : Int)) := by omega
    obtain ⟨ns, hd⟩ := done_any zs
    have hNl : ns.length ≤ 100000 := by
      have h1 := stop_count ns 0
      have h2 := hd.le
      omega
    obtain ⟨N, hns⟩ : ∃ N, ns.length = N := ⟨_, rfl⟩
    rw [hns] at hNl
    have hNi : (N : Int) ≤ 100000 := by omega
    have hO : openSt σ0 0 (stop 0 []) = σ0 := openSt_same σ0 0
    obtain ⟨pn, hpn, hple⟩ := place_upto most N
    have cP := fun u : World => Crc.place_any most ((N : Int) + 1) u (by omega) (by omega)
    rw [hpn] at cP
    have hnilF := eql_nil
    go_enter Try.func3, Try.ntmps3
    go_wp2_with (first
      | (go_at_call 9; refine (logRecords_any _ a6 len c6 zs w6 r6 n6 (by omega)).mono ?_; rintro e w7 ⟨B0, a7, c7, rfl, hc7, hB0a, hB0b, o7, r7, b7⟩)
      | (go_at_call 10; refine (Disk.copy_any a len cap zs _ (hr.after B5) (by omega) h0).mono ?_; rintro e w6 ⟨a6, c6, rfl, r6, o6, b6⟩; have n6 := fun h => ((Disk.owns_form o6).1 h).2)
      | (go_at_call 8; refine (refRecords_all a len cap zs ns w3 (hr.after B3) hd h0 hlc hcb (by omega)).mono ?_; rintro e w4 ⟨v4, rfl, rec4, b4⟩; obtain ⟨va, vc, rfl⟩ := recs_form rec4 hns; have b5 : Below w4.heap.size w4 (w4.alloc (.cells #[.slice va N vc] 31)) := (Below.refl _ _).alloc (Nat.le_refl _) _; have B5 := bcat (bcat B3 b4) b5)
      | (go_at_call 7; refine (open_any g2 (by decide) 0 (by decide) [] rfl [] ⟨trivial, rfl⟩).mono ?_; rintro e w3 ⟨own3, L, ta3, tc3, ps3, rfl, h3, f3, lg3, t3, hp3⟩; have B3 := bcat b1 h3.below)
      | (go_at_call 6; refine (live_new w1 w1 (Below.refl _ _)).mono ?_; rintro e w2 ⟨rfl, ⟨own2, g2⟩, b2⟩)
      | (go_at_call 5; refine (cW w).mono ?_; rintro e w1 ⟨rfl, b1⟩))
    have hWB7 : Boxed w7 w4.heap.size 31 (.slice va N vc) := boxed_after (boxed_after (Boxed.new w4 31 (.slice va N vc)) b6) b7
    have rec7 : Recs w3.heap.size zs ns (.slice va N vc) w7 := ((rec4.later b5).later b6).later b7
    have B7 : Below w.heap.size w w7 := bcat (bcat B5 b6) b7
    generalize w4.heap.size = WB at *
    generalize w3.heap.size = RB at *
    have cR := fun (wr : World) (n : Nat) (hb : Below w7.heap.size w7 wr) (hn : n ≤ N) => round_from w7 wr n hb B0 WB RB N vc len c7 va a7 zs ns hd hns hNl hn hc7 hB0b r7 _ o7 (by omega) hWB7 rec7
    clear b2 g2 own2 h3 f3 lg3 t3 hp3 own3 b4 b5 b6 r6 o6 n6 b7 rec4 B5 r7 o7 hc7 rec7 B3
    go_loopw [12] (fun j wr => ∃ i : Nat, j = .int .i64 i ∧ i ≤ 2 ∧ Hid (Below w7.heap.size w7 wr)) (fun j _ => 2 - (intOf j).toNat)
    case atStart => exact ⟨0, rfl, by omega, Below.refl _ _⟩
    case round =>
      obtain ⟨i, rfl, hi2, hbel⟩ := hrel
      have hb := hbel.out
      clear hbel
      have hcW := (boxed_after hWB7 hb).cell
      rcases (show i = 0 ∨ i = 1 ∨ i = 2 by omega) with rfl | rfl | rfl
      · have c1 := cR wr pn hb hple
        have hcW2 := (Boxed.alloc (boxed_after hWB7 hb) (.cells #[.int .i64 (N : Int)] 3)).cell
        go_wp2_with (first
          | (go_at_call 28; refine c1.mono ?_; rintro e V' ⟨⟨v, rfl⟩, bV, y1, k, y2, y3, y4, hk⟩; rcases hk with rfl | ⟨rfl, rfl, hk⟩; all_goals (try have hmin : min (1 : Int) (N : Int) = 1 := (by omega)))
          | (go_at_call 11; refine (cP _).mono ?_; rintro e u9 ⟨rfl, hu9⟩; rw [hu9]))
        all_goals
          go_roundw
          case rel => first | exact ⟨1, by go_num, by omega, bV⟩ | exact ⟨1, by go_num, by omega, trivial⟩
          case measure => simp [intOf]
      · have c1 := cR wr N hb (Nat.le_refl _)
        go_wp2_with (go_at_call 28; refine c1.mono ?_; rintro e V' ⟨⟨v, rfl⟩, bV, y1, k, y2, y3, y4, hk⟩; have hkN : k = N := (by omega); clear hk; subst hkN)
        go_roundw
        case rel => first | exact ⟨2, by go_num, by omega, bV⟩ | exact ⟨2, by go_num, by omega, trivial⟩
        case measure => simp [intOf]
      · go_wp2
        go_ret
        exact ⟨rfl, B7.trans (hb.mono B7.size)⟩
end Go.Proofs.Ytnehkjabhmhijaa.Wal
