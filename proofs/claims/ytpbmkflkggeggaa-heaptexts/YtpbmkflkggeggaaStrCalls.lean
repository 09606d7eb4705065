/-
  Pop, Peek, New, of texts.
-/
import Derived.Test.YtpbmkflkggeggaaStrTake
import Derived.Test.YtpbmkflkggeggaaStrPush
namespace Go.Proofs.Ytpbmkflkggeggaa.Hs
set_option linter.unusedVariables false
set_option linter.unusedSimpArgs false
open Go Go.RowKit Go.Shelf Go.Proofs Go.Proofs.Ytpbmkflkggeggaa.Hp
attribute [local go_sem] Oper.semAt_some
theorem eql_less (u : World) : (binOp .eql 54 (.func (.func 31) #[] #[]) .nilFunc).run Try.prog u = .ok (.bool false) u := by kernel_rfl
set_option maxRecDepth 100000 in
theorem new_any (B : Nat) (w : World) (hB : B ≤ w.heap.size) : Calls Try.prog 30 #[LessV] w fun e w' => e = .returned (.pointer (some ⟨w.heap.size, 0, none⟩)) ∧ HpAt B w' w.heap.size (.slice none 0 0) [] 0 ∧ Below w.heap.size w w' := by
  unfold LessV
  have eq0 := eql_less
  go_enter Try.func30, Try.ntmps30
  go_wp2
  go_ret
  refine ⟨rfl, ⟨[], ⟨by simp [LessV], by simp, by simp, fun o => by simp, World.ownsRow_nil _ _ _ _, fun e => (by cases e), hB⟩, Holds.nil 0⟩, (Below.refl _ _).alloc (Nat.le_refl _) _⟩
theorem peek_none (B b : Nat) (v : Value) (c : Nat) (w : World) (h : HpAt B w b v [] c) : Calls Try.prog 34 #[.pointer (some ⟨b, 0, none⟩)] w fun e w' => e = .returned (.tuple #[.string ⟨#[]⟩, .bool false]) ∧ Below w.heap.size w w' := by
  obtain ⟨l, h, hh⟩ := h
  obtain ⟨va, vc, rfl, _⟩ := own_form h.row
  have h1 := h.items
  rw [hh.len] at h1
  simp only [List.length_nil] at h1
  have hbl := h.lt
  clear h hh
  go_enter Try.func34, Try.ntmps34
  go_wp2
  go_ret2
  exact ⟨rfl, (Below.refl _ _).alloc (Nat.le_refl _) _⟩
theorem pop_none (B b : Nat) (v : Value) (c : Nat) (w : World) (h : HpAt B w b v [] c) : Calls Try.prog 33 #[.pointer (some ⟨b, 0, none⟩)] w fun e w' => e = .returned (.tuple #[.string ⟨#[]⟩, .bool false]) ∧ Below w.heap.size w w' := by
  obtain ⟨l, h, hh⟩ := h
  obtain rfl : l = [] := List.eq_nil_of_length_eq_zero hh.len
  have cT := take_none B b v c w h
  clear h hh
  go_enter Try.func33, Try.ntmps33
  go_wp2_with (go_at_call 45; refine cT.mono ?_; rintro e w1 ⟨rfl, b1⟩)
  go_ret2
  exact ⟨rfl, b1.alloc b1.size _⟩
theorem pop_some (B b : Nat) (v : Value) (x : Is) (s : List Is) (c : Nat) (w : World) (h : HpAt B w b v (x :: s) c) (hm : s.length < 1000000) : Calls Try.prog 33 #[.pointer (some ⟨b, 0, none⟩)] w fun e w' => e = .returned (.tuple #[.string x.s, .bool true]) ∧ ∃ v', HpAt B w' b v' s c ∧ Tn b v v' w w' := by
  obtain ⟨l, h, hh⟩ := h
  have hl0 : 0 < l.length := by rw [hh.len]; simp
  have cT := take_any B b v l c w h (by rw [hh.len]; simp; omega) hl0 hh.heap
  rw [hh.first hl0] at cT
  have HH : Hid (∀ l', l'.Perm (outL l hl0) → Heap l' → Holds l' s c) := fun l' p q => hh.out hl0 p q
  clear h hh
  go_enter Try.func33, Try.ntmps33
  go_wp2_with (go_at_call 45; refine cT.mono ?_; rintro e w1 ⟨rfl, l1, v1, h1, p1, q1, t1⟩)
  go_ret2
  have bA : Below w1.heap.size w1 (w1.alloc (.cells #[.string x.s, .int .i64 (x.t : Nat)] 80)) := (Below.refl _ _).alloc (Nat.le_refl _) _
  exact ⟨rfl, v1, ⟨l1, h1.go bA, HH.out l1 p1 q1⟩, t1.then bA⟩
end Go.Proofs.Ytpbmkflkggeggaa.Hs
