/-
  The first sentence of each law of package skeplaw04: a record of one byte, there and back.
-/
import Derived.Test.YticfkdiggiogdaaWalCalls
import Derived.Test.YticfkdiggiogdaaWalPlain2
namespace Go.Proofs.Yticfkdiggiogdaa.Wal
set_option linter.unusedVariables false
set_option linter.unusedSimpArgs false
open Go Go.RowKit Go.Shelf Go.Proofs
open Go.Proofs.Yticfkdiggiogdaa.Disk (Row getD_in ret_int add_add DiskIs Kept St now setSt owns_row owns_same)

def σ0 : St := fun _ => ([], [])
theorem live_new (W w : World) (hb : Below W.heap.size W w) : Calls Try.prog 10 #[] w fun e w' => e = .returned (.pointer (Option.some ⟨w.heap.size, 0, none⟩)) ∧ (∃ own, Live W w' own w.heap.size σ0 0) ∧ Below w.heap.size w w' := by
  refine (Disk.new_any w).mono ?_
  rintro e w' ⟨rfl, rfl⟩
  refine ⟨rfl, ⟨_, ⟨_, Disk.new_in w, fun i _ => ⟨rfl, rfl⟩⟩, fun k hk => ?_, hb.alloc hb.size _⟩, (Below.refl _ _).alloc (Nat.le_refl _) _⟩
  by_cases h : k = w.heap.size
  · have := hb.size; omega
  · exact absurd (if_neg h) hk
theorem one_row (w : World) (z : Int) (h0 : 0 ≤ z) (h1 : z < 256) : Row (w.alloc (.cells #[.int .u8 z] 5)) (Option.some ⟨w.heap.size, 0, none⟩) 1 [z] := by
  refine ⟨rfl, by simp; omega, fun i hi => ⟨_, rfl, ?_⟩⟩
  obtain rfl : i = 0 := by omega
  exact (Boxed.new w 5 (.int .u8 z)).cell
theorem const_row (w : World) (z : Int) (h0 : 0 ≤ z) (h1 : z < 256) : Row (w.alloc (.cells #[.int .u8 z] 5 (1, 2))) (Option.some ⟨w.heap.size, 0, none⟩) 1 [z] := by
  refine ⟨rfl, by simp; omega, fun i hi => ⟨_, rfl, ?_⟩⟩
  obtain rfl : i = 0 := by omega
  have hb : (w.alloc (.cells #[.int .u8 z] 5 (1, 2))).heap[w.heap.size]? = Option.some (.cells #[.int .u8 z] 5 (1, 2)) := World.alloc_heap_new w _
  show World.cell? _ ⟨w.heap.size, 0, none⟩ = _
  unfold World.cell?
  rw [hb]
  rfl
theorem add_nought (x : Addr) : x.add 0 = x := by simp [Addr.add]
theorem openSt_same (σ : St) (i : Nat) : openSt σ i (now σ i).length = σ := by unfold openSt; rw [if_neg (by omega)]
theorem now_sync (σ : St) (i : Nat) (p : List Int) : now (setSt σ i (p, [])) i = p := by unfold now; rw [setSt_at]; rfl
theorem fits_one (z : Int) : Fits [z] := ⟨by simp, by simp⟩
theorem read_live {W w : World} {own : Owns} {D : Nat} {σ : St} {m : Nat} (h : Live W w own D σ m) (hm : m < 4194304) (i : Nat) (hi : i < 2) (zs : List Int) (n : Nat) (hz : now σ i = zs) (hn : zs.length = n) :
    Calls Try.prog 29 #[.pointer (Option.some ⟨D, 0, none⟩), .int .i64 i] w fun e w' => ∃ a' cap', e = .returned (.slice a' n cap') ∧ w'.ownsRow w.heap.size 5 1 (.slice a' n cap') n (zs.map (Value.int .u8)) ∧ Row w' a' n zs ∧ (a' = none → cap' = 0) ∧ Below w.heap.size w w' := by
  have e : Disk.readOf σ i = zs := by rw [Disk.readOf, Disk.isFile_yes (by omega), if_pos rfl, Int.toNat_natCast, hz]
  have c := Disk.read_any D w own σ m h.disk hm i
  rw [e, hn] at c
  refine c.mono ?_
  rintro e w' ⟨a', cap', he, ho, hb⟩
  obtain ⟨r1, r2, _⟩ := owns_row ho (by have := readSmall h i; rw [Disk.readOf, Disk.isFile_yes (by omega), if_pos rfl, Int.toNat_natCast, hz] at this; exact this)
  exact ⟨a', cap', he, ho, r1, r2, hb⟩
theorem size_live {W w : World} {own : Owns} {D : Nat} {σ : St} {m : Nat} (h : Live W w own D σ m) (i : Nat) (hi : i < 2) (n : Nat) (hn : (now σ i).length = n) :
    Calls Try.prog 33 #[.pointer (Option.some ⟨D, 0, none⟩), .int .i64 i] w fun e w' => e = .returned (.int .i64 n) ∧ w' = w := by
  have e : Disk.readOf σ i = now σ i := by rw [Disk.readOf, Disk.isFile_yes (by omega), if_pos rfl, Int.toNat_natCast]
  have c := Disk.size_any D w own σ m h.disk i
  rw [e, hn] at c
  exact c

end Go.Proofs.Yticfkdiggiogdaa.Wal
