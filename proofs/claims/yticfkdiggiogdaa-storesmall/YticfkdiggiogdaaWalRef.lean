/-
  The chapter's own answer: a number's four bytes, the number of four bytes, a record's bytes.
-/
import Derived.Test.YticfkdiggiogdaaWalLaw
namespace Go.Proofs.Yticfkdiggiogdaa.Wal
set_option linter.unusedVariables false
set_option linter.unusedSimpArgs false
open Go Go.RowKit Go.Shelf Go.Proofs
open Go.Proofs.Yticfkdiggiogdaa.Disk (Row getD_in ret_int add_add DiskIs Kept St now setSt owns_row owns_same wpList_append_bytes)

theorem bcat {a b c : World} (h : Below a.heap.size a b) (k : Below b.heap.size b c) : Below a.heap.size a c := h.trans (k.mono h.size)
theorem four_row (w : World) (v : Int) : Row (w.alloc (.cells #[.int .u8 (v % 256), .int .u8 (v / 256 % 256), .int .u8 (v / 65536 % 256), .int .u8 (v / 16777216 % 256)] 5)) (Option.some ⟨w.heap.size, 0, none⟩) 4 (four v) := by
  have hb : (w.alloc (.cells #[.int .u8 (v % 256), .int .u8 (v / 256 % 256), .int .u8 (v / 65536 % 256), .int .u8 (v / 16777216 % 256)] 5)).heap[w.heap.size]? = Option.some (.cells #[.int .u8 (v % 256), .int .u8 (v / 256 % 256), .int .u8 (v / 65536 % 256), .int .u8 (v / 16777216 % 256)] 5) := World.alloc_heap_new w _
  refine ⟨rfl, four_small v, fun i hi => ⟨_, rfl, ?_⟩⟩
  rw [Addr.add_lit, Nat.zero_add]
  unfold World.cell?
  rw [hb]
  rcases (show i = 0 ∨ i = 1 ∨ i = 2 ∨ i = 3 by omega) with rfl | rfl | rfl | rfl <;> rfl
set_option maxHeartbeats 1000000 in
theorem refFour_any (v : Int) (w : World) (v0 : 0 ≤ v) (v1 : v < 4294967296) : Calls Try.prog 44 #[.int .u32 v] w fun e w' => e = .returned (.slice (Option.some ⟨w.heap.size, 0, none⟩) 4 4) ∧ Row w' (Option.some ⟨w.heap.size, 0, none⟩) 4 (four v) ∧ Below w.heap.size w w' := by
  have hr := four_row w v
  rw [show v / 16777216 % 256 = v / 16777216 by omega] at hr
  go_enter Try.func44, Try.ntmps44
  go_wp2
  go_ret
  exact ⟨rfl, hr, (Below.refl _ _).alloc (Nat.le_refl _) _⟩
theorem of_nil (w : World) (b : Nat) : w.ownsRow b 5 1 (.slice none 0 0) 0 (([] : List Int).map (Value.int .u8)) := World.ownsRow_nil _ _ _ _
theorem nil_blk (B : Nat) : ∀ g, Value.ownBlock (.slice none 0 0) = Option.some g → B ≤ g := fun g hg => by cases hg

set_option maxHeartbeats 2000000 in
theorem refRecord_any (a : Option Addr) (n cap : Nat) (zs : List Int) (w : World) (hr : Row w a n zs) (h0 : a = none → cap = 0) (hn : n ≤ 65536) :
    Calls Try.prog 15 #[.slice a n cap] w fun e w' => ∃ a' cap', e = .returned (.slice a' (8 + n) cap') ∧ Row w' a' (8 + n) (rec zs) ∧ (a' = none → cap' = 0) ∧ Below w.heap.size w w' := by
  have hl := hr.len
  have e32 : (n : Int) % 4294967296 = n := by omega
  have H : Hid (rec zs = (four n ++ four (sumOf (four n) zs)) ++ zs) := by rw [← hl]; exact rfl
  have sb := sumOf_bd (four n) zs
  have s4 := four_small (n : Int)
  have c1 := refFour_any (n : Int) w (by omega) (by omega)
  generalize hF : four (n : Int) = F at *
  have lF : F.length = 4 := by rw [← hF]; rfl
  clear hF
  have s5 := four_small (sumOf F zs)
  have cOf := fun (a' : Option Addr) (c : Nat) (u : World) (hu : Row u a' (4 + n) (F ++ zs)) => Crc.refOf_any a' (4 + n) c (F ++ zs) u (crcRow hu) (by unfold maxLen; omega)
  have hq0 : Crc.u32 (Crc.more 0#32 (F ++ zs)) = sumOf F zs := rfl
  rw [hq0] at cOf
  clear hq0
  have c2 := fun u : World => refFour_any (sumOf F zs) u sb.1 sb.2
  generalize hq : sumOf F zs = q at *
  generalize hG : four q = G at *
  have he : (rec zs).length = 8 + n := by rw [rec_length, hl]
  generalize rec zs = R at *
  go_enter Try.func15, Try.ntmps15
  go_wp2_with (first
    | (at_builtin; refine wpList_append_bytes rfl (.tmp 20) (.tmp 21) rfl _ 8 (F ++ G) rfl o6 a n cap zs rfl (hr.after bW6) h0 (by omega) ?_; intro a7 d7 w7 o7 g7 t7)
    | (at_builtin; refine wpList_append_bytes rfl (.tmp 16) (.tmp 18) rfl _ 4 F rfl o5 _ 4 4 G rfl r5 (fun h => by cases h) (by decide) ?_; intro a6 d6 w6 o6 g6 t6; have bW6 := bW5.grown g6 bW5.size k4; have k6 := blk_step t6 k4 bW5.size)
    | (go_at_call_of 44 q; refine (c2 w4).mono ?_; rintro e w5 ⟨rfl, r5, b5⟩; have bW5 := bcat bW4 b5; have o5 := owns_later o4 b5)
    | (at_builtin; refine wpList_append_bytes rfl (.const (.slice none 0 0)) (.tmp 15) rfl _ 0 [] rfl (of_nil _ _) _ 4 4 F rfl (r1.after b13) (fun h => by cases h) (by decide) ?_; intro a4 d4 w4 o4 g4 t4; have bW4 := bW3.grown g4 bW3.size (nil_blk _); have k4 := blk_step t4 (nil_blk w.heap.size) bW3.size; simp only [Nat.zero_add, List.nil_append] at o4 k4 ⊢)
    | (go_at_call 45; refine (cOf a3 d3 w3 (owns_row o3 (small_append s4 hr.small)).1).mono ?_; rintro e w9 ⟨rfl, hw9⟩; rw [hw9])
    | (at_builtin; refine wpList_append_bytes rfl (.tmp 11) (.tmp 12) rfl _ 4 F rfl o2 a n cap zs rfl (hr.after bW2) h0 (by omega) ?_; intro a3 d3 w3 o3 g3 t3; have bW3 := bW2.grown g3 bW2.size k2; have b13 := b12.grown g3 b12.size k12)
    | (at_builtin; refine wpList_append_bytes rfl (.const (.slice none 0 0)) (.tmp 10) rfl _ 0 [] rfl (of_nil _ _) _ 4 4 F rfl r1 (fun h => by cases h) (by decide) ?_; intro a2 d2 w2 o2 g2 t2; have b12 : Below w1.heap.size w1 w2 := (Below.refl _ _).grown g2 (Nat.le_refl _) (nil_blk _); have bW2 := bcat b1 b12; have k2 := blk_step t2 (nil_blk w.heap.size) b1.size; have k12 := blk_step t2 (nil_blk w1.heap.size) (Nat.le_refl _); simp only [Nat.zero_add, List.nil_append] at o2 k2 k12 ⊢)
    | (go_at_call_of 44 n; refine c1.mono ?_; rintro e w1 ⟨rfl, r1, b1⟩))
  go_ret
  rw [← H.out] at o7
  obtain ⟨r7, n7, _⟩ := owns_row o7 (by rw [H.out]; exact small_append (small_append s4 s5) hr.small)
  exact ⟨a7, d7, rfl, r7, n7, bW6.grown g7 bW6.size k6⟩
end Go.Proofs.Yticfkdiggiogdaa.Wal
