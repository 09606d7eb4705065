/-
  The chapter's own answer: a number's four bytes, the number of four bytes, a record's bytes.
-/
import Derived.Test.YtnehkjabhmhijaaWalLaw
namespace Go.Proofs.Ytnehkjabhmhijaa.Wal
set_option linter.unusedVariables false
set_option linter.unusedSimpArgs false
open Go Go.RowKit Go.Shelf Go.Proofs
open Go.Proofs.Ytnehkjabhmhijaa.Disk (Row getD_in ret_int add_add DiskIs Kept St now setSt owns_row owns_same wpList_append_bytes)

theorem bcat {a b c : World} (h : Below a.heap.size a b) (k : Below b.heap.size b c) : Below a.heap.size a c := h.trans (k.mono h.size)
theorem row_from {w : World} {B : Nat} {e : TypeId} {size n cap : Nat} {a : Option Addr} {xs : List Value} (h : w.ownsRow B e size (.slice a n cap) n xs) : ∀ k, Value.ownBlock (.slice a n cap) = Option.some k → B ≤ k := by
  intro k hk
  rcases h.2 with ⟨e, _⟩ | ⟨g, cap', cur, e, hb, _⟩
  · rw [e] at hk; cases hk
  · rw [e] at hk; cases hk; exact hb
theorem four_row (w : World) (v : Int) : Row (w.alloc (.cells #[.int .u8 (v % 256), .int .u8 (v / 256 % 256), .int .u8 (v / 65536 % 256), .int .u8 (v / 16777216 % 256)] 5)) (Option.some ⟨w.heap.size, 0, none⟩) 4 (four v) := by
  have hb : (w.alloc (.cells #[.int .u8 (v % 256), .int .u8 (v / 256 % 256), .int .u8 (v / 65536 % 256), .int .u8 (v / 16777216 % 256)] 5)).heap[w.heap.size]? = Option.some (.cells #[.int .u8 (v % 256), .int .u8 (v / 256 % 256), .int .u8 (v / 65536 % 256), .int .u8 (v / 16777216 % 256)] 5) := World.alloc_heap_new w _
  refine ⟨rfl, four_small v, fun i hi => ⟨_, rfl, ?_⟩⟩
  rw [Addr.add_lit, Nat.zero_add]
  unfold World.cell?
  rw [hb]
  rcases (show i = 0 ∨ i = 1 ∨ i = 2 ∨ i = 3 by omega) with rfl | rfl | rfl | rfl <;> rfl
theorem of_nil (w : World) (b : Nat) : w.ownsRow b 5 1 (.slice none 0 0) 0 (([] : List Int).map (Value.int .u8)) := World.ownsRow_nil _ _ _ _
theorem nil_blk (B : Nat) : ∀ g, Value.ownBlock (.slice none 0 0) = Option.some g → B ≤ g := fun g hg => by cases hg

end Go.Proofs.Ytnehkjabhmhijaa.Wal
