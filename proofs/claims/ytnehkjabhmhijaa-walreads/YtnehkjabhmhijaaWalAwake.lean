/-
  The first sentence of each law of package skeplaw04: a record of one byte, there and back.
-/
import Derived.Test.YtnehkjabhmhijaaWalCalls
import Derived.Test.YtnehkjabhmhijaaWalPlain2
namespace Go.Proofs.Ytnehkjabhmhijaa.Wal
set_option linter.unusedVariables false
set_option linter.unusedSimpArgs false
open Go Go.RowKit Go.Shelf Go.Proofs
open Go.Proofs.Ytnehkjabhmhijaa.Disk (Row getD_in ret_int add_add DiskIs Kept St now setSt owns_row owns_same)

def σ0 : St := fun _ => ([], [])
theorem live_new (W w : World) (hb : Below W.heap.size W w) : Calls Try.prog 6 #[] w fun e w' => e = .returned (.pointer (Option.some ⟨w.heap.size, 0, none⟩)) ∧ (∃ own, Live W w' own w.heap.size σ0 0) ∧ Below w.heap.size w w' := by
  refine (Disk.new_any w).mono ?_
  rintro e w' ⟨rfl, rfl⟩
  refine ⟨rfl, ⟨_, ⟨_, Disk.new_in w, fun i _ => ⟨rfl, rfl⟩⟩, fun k hk => ?_, hb.alloc hb.size _⟩, (Below.refl _ _).alloc (Nat.le_refl _) _⟩
  by_cases h : k = w.heap.size
  · have := hb.size; omega
  · exact absurd (if_neg h) hk
theorem one_row (w : World) (z : Int) (h0 : 0 ≤ z) (h1 : z < 256) : Row (w.alloc (.cells #[.int .u8 z] 5)) (Option.some ⟨w.heap.size, 0, none⟩) 1 [z] := by
  refine ⟨rfl, by simp; omega, fun i hi => ⟨_, rfl, ?_⟩⟩
  obtain rfl : i = 0 := by omega
  exact (Boxed.new w 5 (.int .u8 z)).cell
theorem const_row (w : World) (z : Int) (h0 : 0 ≤ z) (h1 : z < 256) : Row (w.alloc (.cells #[.int .u8 z] 5 (1, 2))) (Option.some ⟨w.heap.size, 0, none⟩) 1 [z] := by
  refine ⟨rfl, by simp; omega, fun i hi => ⟨_, rfl, ?_⟩⟩
  obtain rfl : i = 0 := by omega
  have hb : (w.alloc (.cells #[.int .u8 z] 5 (1, 2))).heap[w.heap.size]? = Option.some (.cells #[.int .u8 z] 5 (1, 2)) := World.alloc_heap_new w _
  show World.cell? _ ⟨w.heap.size, 0, none⟩ = _
  unfold World.cell?
  rw [hb]
  rfl
theorem add_nought (x : Addr) : x.add 0 = x := by simp [Addr.add]
theorem openSt_same (σ : St) (i : Nat) : openSt σ i (now σ i).length = σ := by unfold openSt; rw [if_neg (by omega)]
theorem now_sync (σ : St) (i : Nat) (p : List Int) : now (setSt σ i (p, [])) i = p := by unfold now; rw [setSt_at]; rfl
theorem fits_one (z : Int) : Fits [z] := ⟨by simp, by simp⟩
theorem read_live {W w : World} {own : Owns} {D : Nat} {σ : St} {m : Nat} (h : Live W w own D σ m) (hm : m < 4194304) (i : Nat) (hi : i < 2) (zs : List Int) (n : Nat) (hz : now σ i = zs) (hn : zs.length = n) :
    Calls Try.prog 16 #[.pointer (Option.some ⟨D, 0, none⟩), .int .i64 i] w fun e w' => ∃ a' cap', e = .returned (.slice a' n cap') ∧ w'.ownsRow w.heap.size 5 1 (.slice a' n cap') n (zs.map (Value.int .u8)) ∧ Row w' a' n zs ∧ (a' = none → cap' = 0) ∧ Below w.heap.size w w' := by
  have e : Disk.readOf σ i = zs := by rw [Disk.readOf, Disk.isFile_yes (by omega), if_pos rfl, Int.toNat_natCast, hz]
  have c := Disk.read_any D w own σ m h.disk hm i
  rw [e, hn] at c
  refine c.mono ?_
  rintro e w' ⟨a', cap', he, ho, hb⟩
  obtain ⟨r1, r2, _⟩ := owns_row ho (by have := readSmall h i; rw [Disk.readOf, Disk.isFile_yes (by omega), if_pos rfl, Int.toNat_natCast, hz] at this; exact this)
  exact ⟨a', cap', he, ho, r1, r2, hb⟩
theorem size_live {W w : World} {own : Owns} {D : Nat} {σ : St} {m : Nat} (h : Live W w own D σ m) (i : Nat) (hi : i < 2) (n : Nat) (hn : (now σ i).length = n) :
    Calls Try.prog 15 #[.pointer (Option.some ⟨D, 0, none⟩), .int .i64 i] w fun e w' => e = .returned (.int .i64 n) ∧ w' = w := by
  have e : Disk.readOf σ i = now σ i := by rw [Disk.readOf, Disk.isFile_yes (by omega), if_pos rfl, Int.toNat_natCast]
  have c := Disk.size_any D w own σ m h.disk i
  rw [e, hn] at c
  exact c

set_option maxRecDepth 100000 in
set_option maxHeartbeats 4000000 in
theorem awake_any (w : World) : Calls Try.prog 5 #[] w fun e w' => e = .returned (.bool true) ∧ Below w.heap.size w w' := by
  have hd1 := done_all [[97]] (fun x hx => by rw [List.mem_singleton.1 hx]; exact fits_one _)
  obtain ⟨R, hR⟩ : ∃ R, rec [97] = R := ⟨_, rfl⟩
  have hRr : recsOf [[97]] = R := by rw [recsOf_cons, recsOf_nil, List.append_nil, hR]
  rw [hRr] at hd1
  have hRl : R.length = 9 := by rw [← hR, rec_length]; rfl
  have hR0 : R.getD 0 0 = 1 := by rw [← hR]; simp [rec, four]
  have hR8 : R.getD 8 0 = 97 := by rw [← hR]; simp [rec, four]
  have hstr : strOfNums [97] = ⟨#[97]⟩ := by decide
  have hO : openSt σ0 0 (stop 0 []) = σ0 := openSt_same σ0 0
  have hN : now (appSt σ0 0 R) 0 = R := now_app σ0 0 R
  obtain ⟨σ1, hσ1⟩ : ∃ σ, appSt σ0 0 R = σ := ⟨_, rfl⟩
  rw [hσ1] at hN
  obtain ⟨σ2, hσ2⟩ : ∃ σ, setSt σ1 0 (now σ1 0, []) = σ := ⟨_, rfl⟩
  have hN2 : now σ2 0 = R := by rw [← hσ2, now_sync, hN]
  have hO2 : openSt σ2 0 (stop 0 (lens [[97]])) = σ2 := by rw [hd1.2.1, ← hN2]; exact openSt_same σ2 0
  have hlens : (lens [[97]]).length = 1 := rfl
  have cO := fun (w5 : World) (own5 : Owns) (h5 : Live w w5 own5 w.heap.size σ2 5) => open_any h5 (by decide) 0 (by decide) R hN2 (lens [[97]]) hd1.1
  rw [hO2, hd1.2.2, hlens] at cO
  clear hO2
  have kc := fun (w : World) (C : Array Value) (n c : Nat) => Lib.run_convert_bytes_const (P := Try.prog) w 22 5 C n c Try.underlying22 Try.underlying5
  have e97 : Hid (([97] : List Int).length = 1) := rfl
  go_enter Try.func5, Try.ntmps5
  go_wp2_with (first
    | (go_at_call 16; refine (read_live (h6.later b8) (by decide) 0 (by decide) R 9 hN2 hRl).mono ?_; rintro e w9 ⟨a9, c9, rfl, _, r9, _, b9⟩; obtain ⟨x9, rfl, hc9⟩ := r9.cell 8 (by decide); rw [hR8] at hc9; have hc9' : w9.cell? ⟨x9.block, x9.off + 8, none⟩ = Option.some (.int .u8 97) := hc9)
    | (go_at_call 16; refine (read_live h6 (by decide) 0 (by decide) R 9 hN2 hRl).mono ?_; rintro e w8 ⟨a8, c8, rfl, _, r8, _, b8⟩; obtain ⟨x8, rfl, hc8⟩ := r8.cell 0 (by decide); rw [hR0, add_nought] at hc8)
    | (go_at_call 15; refine (size_live h6 0 (by decide) 9 (by rw [hN2, hRl])).mono ?_; rintro e w7 ⟨rfl, hw7⟩; rw [hw7])
    | (go_at_call 7; refine (cO w5 own4 (h4.later b5)).mono ?_; rintro e w6 ⟨own6, L6, ta6, tc6, ps6, rfl, h6, f6, l6, t6, hp6⟩; obtain ⟨p6, rfl⟩ : ∃ p, ps6 = [p] := (List.length_eq_one_iff.1 t6.len); have hz6 : p6.zs = [97] := (by simpa using hp6); obtain ⟨x6, rfl, hc6⟩ := t6.cell 0 (by simp); have hr6 := (t6.piece p6 (by simp)).row; rw [hz6] at hr6; have hv6 := Disk.conv_row hr6 p6.cap; rw [hstr] at hv6; simp only [List.getElem_cons_zero, Piece.val, hz6] at hc6; rw [e97.out] at hc6 hv6; rw [add_nought] at hc6)
    | (go_at_call 20; refine (size_any h4 (by decide) l4 (by decide)).mono ?_; rintro e w5 ⟨rfl, b5⟩; rw [hN2, hRl])
    | (go_at_call 19; refine (sync_any h3 (by decide) l3 (by decide)).mono ?_; rintro e w4 ⟨rfl, own4, h4, f4⟩; rw [hσ2] at h4; have l4 := l3.go f4)
    | (go_at_call 14; refine (append_any (h2.later ((Below.refl _ _).alloc (Nat.le_refl _) _)) (by decide) (l2.go (Fr.below ((Below.refl _ _).alloc (Nat.le_refl _) _))) (by decide) _ 1 1 [97] (const_row w2 97 (by decide) (by decide)) (fun h => by cases h) (by decide) (by decide) (by decide)).mono ?_; rintro e w3 ⟨rfl, own3, h3, f3⟩; rw [hR, hσ1] at h3; have l3 := (l2.go (Fr.below ((Below.refl _ _).alloc (Nat.le_refl _) _))).go f3)
    | (go_at_call 7; refine (open_any h1 (by decide) 0 (by decide) [] rfl [] ⟨trivial, rfl⟩).mono ?_; rintro e w2 ⟨own2, L2, ta2, tc2, ps2, rfl, h2, f2, l2, t2, hp2⟩; rw [hO] at h2)
    | (go_at_call 6; refine (live_new w w (Below.refl _ _)).mono ?_; rintro e w1 ⟨rfl, ⟨own1, h1⟩, b1⟩))
  go_ret
  exact ⟨rfl, ((h6.later b8).later b9).below⟩
end Go.Proofs.Ytnehkjabhmhijaa.Wal
