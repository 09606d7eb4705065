/-
  The first sentence of each law of package skeplaw03: the chapter's example.
-/
import Derived.Test.YtnifpfkemjolkaaDiskLone
namespace Go.Proofs.Ytnifpfkemjolkaa.Disk
set_option linter.unusedVariables false
set_option linter.unusedSimpArgs false
open Go Go.RowKit

theorem abc_row (w : World) : Row (w.alloc (.cells #[.int .u8 97, .int .u8 98, .int .u8 99] 5 (3, 4))) (some ⟨w.heap.size, 0, none⟩) 3 [97, 98, 99] := by
  refine ⟨rfl, by decide, fun i hi => ⟨_, rfl, ?_⟩⟩
  rw [Addr.add_lit, Nat.zero_add, cell_of_row _ w.heap.size i _ 5 (3, 4) (heap_alloc_new w _)]
  rcases (show i = 0 ∨ i = 1 ∨ i = 2 by omega) with rfl | rfl | rfl <;> rfl

theorem de_row (w : World) : Row (w.alloc (.cells #[.int .u8 100, .int .u8 101] 5 (2, 3))) (some ⟨w.heap.size, 0, none⟩) 2 [100, 101] := by
  refine ⟨rfl, by decide, fun i hi => ⟨_, rfl, ?_⟩⟩
  rw [Addr.add_lit, Nat.zero_add, cell_of_row _ w.heap.size i _ 5 (2, 3) (heap_alloc_new w _)]
  rcases (show i = 0 ∨ i = 1 by omega) with rfl | rfl <;> rfl
def aw0 : St := fun _ => ([], [])
def aw1 : St := setSt aw0 0 ((aw0 0).1, (aw0 0).2 ++ [97, 98, 99].map Sum.inl)
def aw2 : St := setSt aw1 0 (now aw1 0, [])
def aw3 : St := setSt aw2 0 ((aw2 0).1, (aw2 0).2 ++ [100, 101].map Sum.inl)
def aw4 : St := setSt aw3 0 ((aw3 0).1, (aw3 0).2 ++ [.inr 1])

theorem Lone.alloc {W w : World} {D : Nat} {σ : St} {m : Nat} (h : Lone W w D σ m) (o : Obj) : Lone W (w.alloc o) D σ m := h.later ((Below.refl _ _).alloc (Nat.le_refl _) o)

set_option maxHeartbeats 2000000 in
theorem awake_any (w : World) : Calls Try.prog 4 #[] w fun e w' => e = .returned (.bool true) ∧ Below w.heap.size w w' := by
  have kc := fun (w : World) (C : Array Value) (n c : Nat) => Lib.run_convert_bytes_const (P := Try.prog) w 28 5 C n c Try.underlying28 Try.underlying5
  have c0 := lone_new w w (Below.refl _ _)
  have p3 : pendOf aw4 0 = 3 := rfl
  have r1 : Hid (readOf (crashSt aw4 1 0) 0 = [97, 98, 99, 100]) := show _ = _ from rfl
  have r2 : Hid (readOf (crashSt aw4 9 0) 0 = [97]) := show _ = _ from rfl
  have q1 : ((strOfNums [97]).toList == [97]) = true := by rw [ByteArray.toList_eq, strOfNums_data]; rfl
  have q4 : ((strOfNums [97, 98, 99, 100]).toList == [97, 98, 99, 100]) = true := by rw [ByteArray.toList_eq, strOfNums_data]; rfl
  go_enter Try.func4, Try.ntmps4
  go_wp2_with (first
    | (go_at_call 14; refine (lone_read_of (h7.later hb8) (by decide) 0 _ 1 r2.out rfl).mono ?_; rintro e w9 ⟨a9, cap9, rfl, ho9, hr9, hn9, hb9⟩; have k9 := conv_row hr9 cap9)
    | (go_at_call 14; refine (lone_read_of (h6.later h7.below) (by decide) 0 _ 4 r1.out rfl).mono ?_; rintro e w8 ⟨a8, cap8, rfl, ho8, hr8, hn8, hb8⟩; have k8 := conv_row hr8 cap8)
    | (go_at_call 13; refine (lone_pending ((h5.later h6.below).later h7.below) 0).mono ?_; rintro e w' ⟨rfl, hw⟩; rw [hw])
    | (go_at_call 12; refine (lone_crash (h5.later h6.below) (by decide) 9 0 (by decide) (by decide)).mono ?_; rintro e w7 ⟨y, rfl, h7⟩)
    | (go_at_call 12; refine (lone_crash h5 (by decide) 1 0 (by decide) (by decide)).mono ?_; rintro e w6 ⟨x, rfl, h6⟩)
    | (go_at_call 11; refine (lone_cut_ok h4 (by decide) 0 (by decide) 1 (by decide)).mono ?_; rintro e w5 ⟨rfl, h5⟩; replace h5 : Lone w w5 w.heap.size aw4 4 := h5)
    | (go_at_call 9; refine (lone_append_ok (h3.alloc _) (by decide) 0 (by decide) _ _ _ _ (de_row w3) (fun h => by cases h) (by decide)).mono ?_; rintro e w4 ⟨rfl, h4⟩; replace h4 : Lone w w4 w.heap.size aw3 3 := h4)
    | (go_at_call 10; refine (lone_sync_ok h2 (by decide) 0 (by decide)).mono ?_; rintro e w3 ⟨rfl, h3⟩; replace h3 : Lone w w3 w.heap.size aw2 2 := h3)
    | (go_at_call 9; refine (lone_append_ok (h1.alloc _) (by decide) 0 (by decide) _ _ _ _ (abc_row w1) (fun h => by cases h) (by decide)).mono ?_; rintro e w2 ⟨rfl, h2⟩; replace h2 : Lone w w2 w.heap.size aw1 1 := h2)
    | (go_at_call 5; refine c0.mono ?_; rintro e w1 ⟨rfl, h1⟩; replace h1 : Lone w w1 w.heap.size aw0 0 := h1))
  go_ret
  exact ⟨rfl, ((h7.rebase (h6.rebase h5.below).below).below.trans (hb8.mono (h7.rebase (h6.rebase h5.below).below).below.size)).trans (hb9.mono (((h7.rebase (h6.rebase h5.below).below).below.trans (hb8.mono (h7.rebase (h6.rebase h5.below).below).below.size))).size)⟩

end Go.Proofs.Ytnifpfkemjolkaa.Disk
