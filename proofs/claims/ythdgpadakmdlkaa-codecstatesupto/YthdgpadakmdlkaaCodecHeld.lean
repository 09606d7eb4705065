/-
  How events and states are held in memory, and what is in them.
-/
import Derived.Test.YthdgpadakmdlkaaCodecItems
namespace Go.Proofs.Ythdgpadakmdlkaa.Codec
set_option linter.unusedVariables false
set_option linter.unusedSimpArgs false
open Go Go.RowKit

theorem ListAt.form {α : Type} {S : Nat} {El : (Nat → Prop) → α → Array Value → World → Prop} {F : Nat → Prop} {xs : List α} {v : Value} {w : World} (h : ListAt S El F xs v w) : ∃ a cap, v = .slice a xs.length cap ∧ (a = none → xs.length = 0 ∧ cap = 0) := by
  obtain ⟨a, cap, ys, h1, h2, h3, h4, h5⟩ := h
  refine ⟨a, cap, by rw [h2, h1, List.length_map], fun ha => ⟨?_, h5 ha⟩⟩
  rw [h1, List.length_map]
  rcases Nat.eq_zero_or_pos ys.length with e | e
  · exact e
  · obtain ⟨p, hp, _⟩ := h4 0 e
    rw [ha] at hp
    cases hp
/- The laws of a thing that is held by cells, and lists. -/
def moveEl (F : Nat → Prop) (m : TMove) (cs : Array Value) (u : World) : Prop := Plain (fun t : TMove => (mCells t).toArray) F m cs u
def intEl (F : Nat → Prop) (m : Int) (cs : Array Value) (u : World) : Prop := Plain intCells F m cs u
theorem heldMoveEl : Held moveEl 11 := heldMove
theorem heldIntEl : Held intEl 1 := heldInt
def stackEl (F : Nat → Prop) (x : TStack) (cs : Array Value) (u : World) : Prop := ∃ v, cs = #[.int .i64 x.1.1, .int .i64 x.1.2, v] ∧ ListAt 1 intEl F x.2 v u
theorem heldStack : Held stackEl 3 :=
  ⟨fun ⟨v, h, _⟩ => by rw [h]; rfl, fun ⟨v, h, hl⟩ => by obtain ⟨a, cap, rfl, _⟩ := hl.form; rw [h]; simp [Value.oneCell'], fun ⟨v, h, hl⟩ hs => ⟨v, h, hl.stable heldIntEl hs⟩, fun ⟨v, h, hl⟩ hs => ⟨v, h, hl.mono heldIntEl hs⟩⟩
def robotEl (F : Nat → Prop) (x : TRobot) (cs : Array Value) (u : World) : Prop := ∃ v, cs = #[.int .i64 x.1.1.1, .int .i64 x.1.1.2, .bool x.1.2, .int .i64 x.2.1, .int .i64 x.2.2.1, v, .bool x.2.2.2.2.1, .int .i64 x.2.2.2.2.2.1, .bool x.2.2.2.2.2.2] ∧ ListAt 11 moveEl F x.2.2.2.1 v u
theorem heldRobot : Held robotEl 9 :=
  ⟨fun ⟨v, h, _⟩ => by rw [h]; rfl, fun ⟨v, h, hl⟩ => by obtain ⟨a, cap, rfl, _⟩ := hl.form; rw [h]; simp [Value.oneCell'], fun ⟨v, h, hl⟩ hs => ⟨v, h, hl.stable heldMoveEl hs⟩, fun ⟨v, h, hl⟩ hs => ⟨v, h, hl.mono heldMoveEl hs⟩⟩
def portEl (F : Nat → Prop) (x : TPort) (cs : Array Value) (u : World) : Prop := ∃ v, cs = #[.int .i64 x.1, .int .i64 x.2.1, v] ∧ ListAt 1 intEl F x.2.2 v u
theorem heldPort : Held portEl 3 :=
  ⟨fun ⟨v, h, _⟩ => by rw [h]; rfl, fun ⟨v, h, hl⟩ => by obtain ⟨a, cap, rfl, _⟩ := hl.form; rw [h]; simp [Value.oneCell'], fun ⟨v, h, hl⟩ hs => ⟨v, h, hl.stable heldIntEl hs⟩, fun ⟨v, h, hl⟩ hs => ⟨v, h, hl.mono heldIntEl hs⟩⟩
def orderEl (F : Nat → Prop) (x : TOrder) (cs : Array Value) (u : World) : Prop := cs = #[.int .i64 x.1, .int .i64 x.2.1, .int .i64 x.2.2.1, .int .i64 x.2.2.2]
theorem heldOrder : Held orderEl 4 :=
  ⟨fun h => by rw [h]; rfl, fun h => by rw [h]; simp [Value.oneCell'], fun h _ => h, fun h _ => h⟩
def jobEl (F : Nat → Prop) (x : TJob) (cs : Array Value) (u : World) : Prop := cs = #[.int .i64 x.1, .int .i64 x.2.1, .int .i64 x.2.2.1, .int .i64 x.2.2.2.1, .int .i64 x.2.2.2.2.1.1, .int .i64 x.2.2.2.2.1.2, .int .i64 x.2.2.2.2.2.1.1, .int .i64 x.2.2.2.2.2.1.2, .int .i64 x.2.2.2.2.2.2]
theorem heldJob : Held jobEl 9 :=
  ⟨fun h => by rw [h]; rfl, fun h => by rw [h]; simp [Value.oneCell'], fun h _ => h, fun h _ => h⟩
def eventEl (F : Nat → Prop) (x : TEvent) (cs : Array Value) (u : World) : Prop := ∃ v, cs = #[.int .i64 x.1, .int .i64 x.2.1, .int .i64 x.2.2.1, .int .i64 x.2.2.2.1.1.1, .int .i64 x.2.2.2.1.1.2, .bool x.2.2.2.1.2, v] ∧ ListAt 11 moveEl F x.2.2.2.2 v u
theorem heldEvent : Held eventEl 7 :=
  ⟨fun ⟨v, h, _⟩ => by rw [h]; rfl, fun ⟨v, h, hl⟩ => by obtain ⟨a, cap, rfl, _⟩ := hl.form; rw [h]; simp [Value.oneCell'], fun ⟨v, h, hl⟩ hs => ⟨v, h, hl.stable heldMoveEl hs⟩, fun ⟨v, h, hl⟩ hs => ⟨v, h, hl.mono heldMoveEl hs⟩⟩
def stateEl (F : Nat → Prop) (x : TState) (cs : Array Value) (u : World) : Prop := ∃ v1 v2 v3 v4 v5, cs = #[.int .i64 x.1, .int .i64 x.2.1, .bool x.2.2.1, v1, v2, v3, v4, v5, .int .i64 x.2.2.2.2.2.2.2.2.1, .int .i64 x.2.2.2.2.2.2.2.2.2] ∧
  ListAt 3 stackEl F x.2.2.2.1 v1 u ∧ ListAt 9 robotEl F x.2.2.2.2.1 v2 u ∧ ListAt 3 portEl F x.2.2.2.2.2.1 v3 u ∧ ListAt 4 orderEl F x.2.2.2.2.2.2.1 v4 u ∧ ListAt 9 jobEl F x.2.2.2.2.2.2.2.1 v5 u
theorem heldState : Held stateEl 10 :=
  ⟨fun ⟨v1, v2, v3, v4, v5, h, _⟩ => by rw [h]; rfl,
   fun ⟨v1, v2, v3, v4, v5, h, l1, l2, l3, l4, l5⟩ => by
    obtain ⟨_, _, rfl, _⟩ := l1.form
    obtain ⟨_, _, rfl, _⟩ := l2.form
    obtain ⟨_, _, rfl, _⟩ := l3.form
    obtain ⟨_, _, rfl, _⟩ := l4.form
    obtain ⟨_, _, rfl, _⟩ := l5.form
    rw [h]; simp [Value.oneCell'],
   fun ⟨v1, v2, v3, v4, v5, h, l1, l2, l3, l4, l5⟩ hs => ⟨v1, v2, v3, v4, v5, h, l1.stable heldStack hs, l2.stable heldRobot hs, l3.stable heldPort hs, l4.stable heldOrder hs, l5.stable heldJob hs⟩,
   fun ⟨v1, v2, v3, v4, v5, h, l1, l2, l3, l4, l5⟩ hs => ⟨v1, v2, v3, v4, v5, h, l1.mono heldStack hs, l2.mono heldRobot hs, l3.mono heldPort hs, l4.mono heldOrder hs, l5.mono heldJob hs⟩⟩
end Go.Proofs.Ythdgpadakmdlkaa.Codec
