/-
  Bytes made anew, and a full file, for the laws of package skeplaw03.
-/
import Derived.Test.YtnifpfkemjolkaaDiskAwake
namespace Go.Proofs.Ytnifpfkemjolkaa.Disk
set_option linter.unusedVariables false
set_option linter.unusedSimpArgs false
open Go Go.RowKit

theorem zero_row {w : World} {base g n : Nat} (h : w.ownsRow base 5 1 (.slice (some ⟨g, 0, none⟩) n n) n (madeCells (Value.int .u8 0).cells (n * 1)).toList) : Row w (some ⟨g, 0, none⟩) n (List.replicate n (0 : Int)) := by
  have e : (madeCells (Value.int .u8 0).cells (n * 1)).toList = (List.replicate n (0 : Int)).map (Value.int .u8) := by
    rw [List.map_replicate, Nat.mul_one]
    exact toList_madeCells_one _ _
  rw [e] at h
  exact (owns_row h (fun z hz => by rw [List.mem_replicate] at hz; omega)).1
theorem one_row (w : World) (z : Int) (h0 : 0 ≤ z) (h1 : z < 256) : Row (w.alloc (.cells #[.int .u8 z] 5)) (some ⟨w.heap.size, 0, none⟩) 1 [z] := by
  refine ⟨rfl, fun y hy => ?_, fun i hi => ⟨_, rfl, ?_⟩⟩
  · have : y = z := by simpa using hy
    omega
  · rw [Addr.add_lit, Nat.zero_add, cell_of_row _ w.heap.size i _ 5 (0, 0) (heap_alloc_new w _)]
    rcases (show i = 0 by omega) with rfl
    rfl
theorem nil_row (w : World) : Row w none 0 [] := ⟨rfl, by decide, fun i hi => by omega⟩

theorem now_set (σ : St) (i : Nat) (p : List Int × List U) : now (setSt σ i p) i = run p.1 p.2 := by simp [now, setSt]
theorem now_other (σ : St) (i j : Nat) (p : List Int × List U) (h : j ≠ i) : now (setSt σ i p) j = now σ j := by simp [now, setSt, h]
theorem now_put (σ : St) (i : Nat) (bs : List Int) : now (setSt σ i ((σ i).1, (σ i).2 ++ bs.map Sum.inl)) i = now σ i ++ bs := by rw [now_set, run_append, run_bytes]; rfl
theorem now_cut (σ : St) (i n : Nat) : now (setSt σ i ((σ i).1, (σ i).2 ++ [.inr n])) i = (now σ i).take n := by rw [now_set, run_append, run_cut]; rfl
theorem now_sync (σ : St) (i : Nat) : now (setSt σ i (now σ i, [])) i = now σ i := by rw [now_set, run_nil]

def fu1 (N : Nat) : St := setSt aw0 0 ((aw0 0).1, (aw0 0).2 ++ (List.replicate N (0 : Int)).map Sum.inl)
def fu2 (N : Nat) : St := setSt (fu1 N) 0 ((fu1 N 0).1, (fu1 N 0).2 ++ ([] : List Int).map Sum.inl)
def fu3 (N : Nat) : St := setSt (fu2 N) 1 ((fu2 N 1).1, (fu2 N 1).2 ++ [1].map Sum.inl)
def fu4 (N : Nat) : St := setSt (fu3 N) 0 ((fu3 N 0).1, (fu3 N 0).2 ++ [.inr 16777215])
def fu5 (N : Nat) : St := setSt (fu4 N) 0 ((fu4 N 0).1, (fu4 N 0).2 ++ [1].map Sum.inl)
theorem len_fu1 (N : Nat) : (now (fu1 N) 0).length = N := by
  unfold fu1
  rw [now_put, List.length_append, List.length_replicate]
  exact Nat.zero_add N
theorem len_fu2 (N : Nat) : (now (fu2 N) 0).length = N := by
  unfold fu2
  rw [now_put, List.append_nil, len_fu1]
theorem len_fu3 (N : Nat) : (now (fu3 N) 0).length = N := by
  unfold fu3
  rw [now_other _ _ _ _ (by decide), len_fu2]
theorem len_fu2' (N : Nat) : (now (fu2 N) 1).length = 0 := by
  unfold fu2 fu1
  rw [now_other _ _ _ _ (by decide), now_other _ _ _ _ (by decide)]
  rfl
theorem len_fu4 (N : Nat) (h : N = 16777216) : (now (fu4 N) 0).length = 16777215 := by
  unfold fu4
  rw [now_cut, List.length_take, len_fu3]
  omega
theorem len_fu5 (N : Nat) (h : N = 16777216) : (now (fu5 N) 0).length = 16777216 := by
  unfold fu5
  rw [now_put, List.length_append, len_fu4 N h]
  rfl
theorem read_len (σ : St) (i : Nat) (hi : i < 2) : readOf σ i = now σ i := by
  unfold readOf
  rw [isFile_yes (by omega), if_pos rfl, Int.toNat_natCast]

theorem Below.grown_none {W w w' : World} (hb : Below W.heap.size W w) (h : w.grownBy w' none) : Below W.heap.size W w' := hb.grown h hb.size fun k hk => by cases hk
theorem below_of_none {w w' : World} (h : w.grownBy w' none) : Below w.heap.size w w' := (Below.refl _ _).grown h (Nat.le_refl _) fun k hk => by cases hk

end Go.Proofs.Ytnifpfkemjolkaa.Disk
