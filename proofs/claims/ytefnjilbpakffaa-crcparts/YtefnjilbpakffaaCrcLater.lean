/-
  A statement that leaves its order open, whose operations read, and whose callees may make memory but turn nothing old: one walk in the order of the text serves every order (the library's law on quiet regions, at the class 'nothing old has turned').
-/
import Derived.Test.YtefnjilbpakffaaCrcMem
import Derived.Deep.RegionWith
namespace Go.Proofs.Ytefnjilbpakffaa.Crc
open Go Go.RowKit

/- A world in which nothing of W has turned. -/
structure Later (W : World) : Type where
  w : World
  bel : Below W.heap.size W w

theorem Later.some (W : World) : Nonempty (Later W) := ⟨⟨W, Below.refl _ _⟩⟩
theorem later_self (W : World) : ∃ u : Later W, W = u.w := ⟨⟨W, Below.refl _ _⟩, rfl⟩

theorem wp_region_later {P : Program} {W : World} {id : Nat} {Q : Exit → Act → World → Prop} {a : Act} {w : World} {l : List Oper} (hm : P.follows .mixedOrders = true) (hB : Region.lexB .any l.toArray = true)
    (hb : Below W.heap.size W w)
    (h : wpQuiet P l.toArray (fun w' => ∃ u : Later W, w' = u.w) (fun a' => ∀ w', (∃ u : Later W, w' = u.w) → Q .normal a' w') l a) : (Code.region id l.toArray true).wp P Q a w :=
  wp_region_quiet (C := fun w' => ∃ u : Later W, w' = u.w) hm hB ⟨⟨_, hb.drew⟩, rfl⟩ h

theorem later_same {P : Program} {f : FuncId} {args : Array Value} {W : World} {u : Later W} {v : Value}
    (h : Calls P f args u.w fun e w' => e = .returned v ∧ w' = u.w) : Calls P f args u.w fun e w' => e = .returned v ∧ ∃ u' : Later W, w' = u'.w :=
  h.mono fun _ _ ⟨he, hw⟩ => ⟨he, u, hw⟩
theorem later_grown {P : Program} {f : FuncId} {args : Array Value} {W : World} {u : Later W} {v : Value}
    (h : Calls P f args u.w fun e w' => e = .returned v ∧ Below u.w.heap.size u.w w') : Calls P f args u.w fun e w' => e = .returned v ∧ ∃ u' : Later W, w' = u'.w :=
  h.mono fun _ w' ⟨he, hw⟩ => ⟨he, ⟨w', u.bel.trans (hw.mono u.bel.size)⟩, rfl⟩

end Go.Proofs.Ytefnjilbpakffaa.Crc
