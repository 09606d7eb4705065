/-
  How a run ends that is stopped at any tick.
-/
import Derived.Test.YtjblplaaogbkiaaKinFacts
import Derived.Test.YtjblplaaogbkiaaKinRef3
namespace Go.Proofs.Ytjblplaaogbkiaa.Kin
set_option linter.unusedVariables false
set_option linter.unusedSimpArgs false
open Go Go.RowKit Go.Shelf Go.Proofs
attribute [local go_sem] Oper.semAt_some

set_option maxRecDepth 100000 in
set_option maxHeartbeats 4000000 in
theorem stops_all (u a v n t : Int) (w : World) (ht2 : t ≤ 9223372036854775807) : Calls Try.prog 5 #[.int .i64 u, .int .i64 a, .int .i64 v, .int .i64 n, .int .i64 t] w fun e w' => e = .returned (.bool true) ∧ Below w.heap.size w w' := by
  have ok := few_ok u a v
  have u60 := few_bd u 60 (by omega)
  have a20 := few_bd a 20 (by omega)
  have v40 := few_bd v 40 (by omega)
  have cF := few_any u a v w
  generalize few u 60 = U at *
  generalize few a 20 = A at *
  generalize few v 40 = V at *
  have cM := fun w1 => made_yes U A V ok w1
  have hnot : ∀ (x : Bool) (w : World), (Op.unary .not (.bool x)).run Try.prog w = .ok (.bool (!x)) w := fun _ _ => rfl
  obtain ⟨K, hK⟩ : ∃ K, (profI U A V n).length = K := ⟨_, rfl⟩
  have hKb := profI_len ok n
  rw [hK] at hKb
  have pK := place_bd t (K + 2) (by omega)
  have cP := fun w1 => place_any t (K + 2) w1 (by omega) (by omega)
  have cT := fun (g : Nat) (w1 : World) (h1 : KinAt w1 g U A V) => time_any g U A V n w1 h1 ok
  rw [hK] at cT
  have cS := fun (x : Int) (hx : x ≤ 9223372036854775807) (g : Nat) (w1 : World) (h1 : KinAt w1 g U A V) => stop_any g U A V n x w1 h1 ok hx
  have cR := fun (x : Int) (hx : x ≤ 9223372036854775807) (w1 : World) => refStop_any U A V n x w1 ok hx
  go_enter Try.func5, Try.ntmps5
  go_wp2_with (first
    | (go_at_call 17; refine cF.mono ?_; rintro e wf ⟨rfl, rfl⟩)
    | (go_at_call 13; refine (cM _).mono ?_; rintro e w1 ⟨g, rfl, hg, k1, b1⟩; have G : KGo g U A V w1 (w1.alloc (.cells #[.int .i64 U, .int .i64 A, .int .i64 V] 24)) := KGo.below k1 ((Below.refl _ _).alloc (Nat.le_refl _) _)))
  obtain ⟨w2, hw2⟩ : ∃ w2, w1.alloc (.cells #[.int .i64 U, .int .i64 A, .int .i64 V] 24) = w2 := ⟨_, rfl⟩
  have hC : w2.heap[w1.heap.size]? = some (.cells #[.int .i64 U, .int .i64 A, .int .i64 V] 24 (0, 0)) := by rw [← hw2]; exact World.alloc_heap_new _ _
  rw [hw2] at G
  try rw [hw2]
  clear hw2
  have lt1 : w1.heap.size < w2.heap.size := (Array.getElem?_eq_some_iff.1 hC).1
  have lg1 := k1.nums.lt
  have HY : Hid (∀ z, KGo g U A V w2 z → z.cell? ⟨w1.heap.size, 0, none⟩ = some (.int .i64 U) ∧ z.cell? ⟨w1.heap.size, 1, none⟩ = some (.int .i64 A) ∧ z.cell? ⟨w1.heap.size, 2, none⟩ = some (.int .i64 V)) := fun z hz => by
    have e : z.heap[w1.heap.size]? = w2.heap[w1.heap.size]? := hz.grow.block _ lt1 (fun e => by cases e; omega)
    exact ⟨(cell_same e).trans (cell_of hC 0), (cell_same e).trans (cell_of hC 1), (cell_same e).trans (cell_of hC 2)⟩
  have bw2 := b1.trans (G.since hg b1.size)
  have hg2 := hg
  have kk2 := G.kin
  clear G
  go_loopw [14] (fun i wr => ∃ j : Nat, j ≤ 3 ∧ i = .int .i64 j ∧ KGo g U A V w2 wr) (fun i wr => 3 - (intOf i).toNat)
  case atStart => exact ⟨0, by omega, rfl, KGo.refl kk2⟩
  case round =>
    obtain ⟨j, hj, rfl, G⟩ := hrel
    by_cases hlt : j < 3
    · by_cases h0 : j = 0
      · subst h0
        have cS1 := cS t ht2
        have cR1 := cR t ht2
        clear cS cR
        generalize stopC U A V n t = sc at *
        generalize stopT U A V n t = stt at *
        go_wp2_with (first
          | (go_at_call 28; refine (cS1 g _ G.kin).mono ?_; rintro e wx ⟨rfl, gq⟩; replace G := G.trans gq; clear gq; obtain ⟨y0, y1, y2⟩ := HY.out _ G)
          | (go_at_call 29; refine (cR1 _).mono ?_; rintro e wy ⟨rfl, by1⟩; replace G := G.then by1; clear by1))
        go_roundw
        case rel => exact ⟨1, by omega, by go_num, G⟩
        case measure => simp [intOf]
      · have hj1 : (0 : Int) < j := by omega
        obtain ⟨x, hx⟩ : ∃ x, place t (K + 2) + j - 1 = x := ⟨_, rfl⟩
        have cS1 := cS x (by omega)
        have cR1 := cR x (by omega)
        clear cS cR
        generalize stopC U A V n x = sc at *
        generalize stopT U A V n x = stt at *
        go_wp2_with (first
          | (go_at_call 21; refine (cT g _ G.kin).mono ?_; rintro e wx ⟨rfl, gq⟩; replace G := G.trans gq; clear gq)
          | (go_at_call 27; refine (cP _).mono ?_; rintro e wf ⟨rfl, rfl⟩)
          | (go_at_call 28; refine (cS1 g _ G.kin).mono ?_; rintro e wx ⟨rfl, gq⟩; replace G := G.trans gq; clear gq; obtain ⟨y0, y1, y2⟩ := HY.out _ G)
          | (go_at_call 29; refine (cR1 _).mono ?_; rintro e wy ⟨rfl, by1⟩; replace G := G.then by1; clear by1))
        go_roundw
        case rel => exact ⟨j + 1, by omega, by go_num, G⟩
        case measure => simp [intOf]; omega
    · obtain rfl : j = 3 := by omega
      go_wp2_with (go_at_call 14; refine (awake_any _).mono ?_; rintro e wz ⟨rfl, bz⟩; replace G := G.then bz; clear bz)
      go_ret
      exact ⟨rfl, bw2.trans (G.since (by omega) bw2.size)⟩
end Go.Proofs.Ytjblplaaogbkiaa.Kin
