/-
  Slots of a call's own, sorted by the library, by their first tick.
-/
import Derived.Test.YtddkgkafgjdheaaResvConcat
import Derived.Shelf.SlSortCmp.NoneTotal
namespace Go.Proofs.Ytddkgkafgjdheaa.Rs
set_option linter.unusedVariables false
set_option linter.unusedSimpArgs false
open Go Go.RowKit Go.Shelf Go.Proofs Go.Sort Hp
attribute [local go_sem] Oper.semAt_some

def ren : Go.Shelf.Ren := ⟨fun | 6 => 67 | 14 => 72 | 15 => 73 | 20 => 75 | 21 => 76 | 22 => 77 | 23 => 78 | 24 => 79 | 25 => 80 | 26 => 81 | 27 => 82 | 28 => 83 | 29 => 84 | 46 => 85 | 47 => 86 | 48 => 87 | 49 => 88 | 50 => 89 | 57 => 90 | n => n, fun | 0 => 0 | 3 => 3 | 4 => 4 | 5 => 5 | 9 => 9 | 22 => 37 | 24 => 40 | 25 => 100 | 39 => 96 | 45 => 105 | 46 => 106 | 50 => 69 | 53 => 112 | 55 => 114 | 66 => 115 | 70 => 119 | 76 => 121 | 77 => 122 | n => n, fun n => n⟩
set_option maxRecDepth 100000 in
theorem lays : SlLaysF0.n6 Try.prog ren where
  mixed := by kernel_rfl
  f6 := ⟨Try.f67.name, by kernel_rfl, Try.func67.trans (congrArg some (by kernel_rfl))⟩
  f14 := ⟨Try.f72.name, by kernel_rfl, Try.func72.trans (congrArg some (by kernel_rfl))⟩
  f15 := Try.func73.trans (congrArg some (by kernel_rfl))
  f20 := ⟨Try.f75.name, by kernel_rfl, Try.func75.trans (congrArg some (by kernel_rfl))⟩
  f21 := ⟨Try.f76.name, by kernel_rfl, Try.func76.trans (congrArg some (by kernel_rfl))⟩
  f22 := ⟨Try.f77.name, by kernel_rfl, Try.func77.trans (congrArg some (by kernel_rfl))⟩
  f23 := ⟨Try.f78.name, by kernel_rfl, Try.func78.trans (congrArg some (by kernel_rfl))⟩
  f24 := ⟨Try.f79.name, by kernel_rfl, Try.func79.trans (congrArg some (by kernel_rfl))⟩
  f25 := ⟨Try.f80.name, by kernel_rfl, Try.func80.trans (congrArg some (by kernel_rfl))⟩
  f26 := ⟨Try.f81.name, by kernel_rfl, Try.func81.trans (congrArg some (by kernel_rfl))⟩
  f27 := ⟨Try.f82.name, by kernel_rfl, Try.func82.trans (congrArg some (by kernel_rfl))⟩
  f28 := Try.func83.trans (congrArg some (by kernel_rfl))
  f29 := Try.func84.trans (congrArg some (by kernel_rfl))
  f46 := ⟨Try.f85.name, by kernel_rfl, Try.func85.trans (congrArg some (by kernel_rfl))⟩
  f47 := Try.func86.trans (congrArg some (by kernel_rfl))
  f48 := Try.func87.trans (congrArg some (by kernel_rfl))
  f49 := ⟨Try.f88.name, by kernel_rfl, Try.func88.trans (congrArg some (by kernel_rfl))⟩
  f50 := ⟨Try.f89.name, by kernel_rfl, Try.func89.trans (congrArg some (by kernel_rfl))⟩
  f57 := ⟨Try.f90.name, by kernel_rfl, Try.func90.trans (congrArg some (by kernel_rfl))⟩
  t0 := Try.underlying0
  a0 := Try.isAgg0
  z0 := Try.sizeOf0
  v0 := Try.zeroValue0
  t3 := Try.underlying3
  a3 := Try.isAgg3
  z3 := Try.sizeOf3
  v3 := Try.zeroValue3
  t4 := Try.underlying4
  a4 := Try.isAgg4
  z4 := Try.sizeOf4
  v4 := Try.zeroValue4
  t5 := Try.underlying5
  a5 := Try.isAgg5
  z5 := Try.sizeOf5
  v5 := Try.zeroValue5
  t9 := Try.underlying9
  a9 := Try.isAgg9
  z9 := Try.sizeOf9
  v9 := Try.zeroValue9
  t22 := Try.underlying37
  a22 := Try.isAgg37
  z22 := Try.sizeOf37
  v22 := Try.zeroValue37
  t25 := Try.underlying100
  a25 := Try.isAgg100
  z25 := Try.sizeOf100
  v25 := Try.zeroValue100
  t39 := Try.underlying96
  a39 := Try.isAgg96
  z39 := Try.sizeOf96
  v39 := Try.zeroValue96
  t45 := Try.underlying105
  a45 := Try.isAgg105
  z45 := Try.sizeOf105
  v45 := Try.zeroValue105
  t46 := Try.underlying106
  a46 := Try.isAgg106
  z46 := Try.sizeOf106
  v46 := Try.zeroValue106
  t50 := Try.underlying69
  a50 := Try.isAgg69
  z50 := Try.sizeOf69
  v50 := Try.zeroValue69
  t53 := Try.underlying112
  a53 := Try.isAgg112
  z53 := Try.sizeOf112
  v53 := Try.zeroValue112
  t55 := Try.underlying114
  a55 := Try.isAgg114
  z55 := Try.sizeOf114
  v55 := Try.zeroValue114
  t66 := Try.underlying115
  a66 := Try.isAgg115
  z66 := Try.sizeOf115
  v66 := Try.zeroValue115
  t70 := Try.underlying119
  a70 := Try.isAgg119
  z70 := Try.sizeOf119
  v70 := Try.zeroValue119
  t76 := Try.underlying121
  a76 := Try.isAgg121
  z76 := Try.sizeOf121
  v76 := Try.zeroValue121
  t77 := Try.underlying122
  a77 := Try.isAgg122
  z77 := Try.sizeOf122
  v77 := Try.zeroValue122
instance : Inhabited Sl := ⟨⟨0, 0, 0⟩⟩
theorem nan_any (a : Int) (w : World) : Calls Try.prog 74 #[.int .i64 a] w fun e w' => e = .returned (.bool false) ∧ w' = w := by
  go_enter Try.func74, Try.ntmps74
  go_wp2
  go_ret
  exact ⟨by simp, rfl⟩
def cmpI (a b : Int) : Int := if a < b then -1 else if b < a then 1 else 0
set_option maxRecDepth 100000 in
theorem compare_any (a b : Int) (w : World) : Calls Try.prog 69 #[.int .i64 a, .int .i64 b] w fun e w' => e = .returned (.int .i64 (cmpI a b)) ∧ w' = w := by
  have n0 := fun w => nan_any a w
  have n1 := fun w => nan_any b w
  unfold cmpI
  by_cases h1 : a < b
  · rw [if_pos h1]
    go_enter Try.func69, Try.ntmps69
    go_wp2_with (go_at_call 74; first | (refine (n0 _).mono ?_; rintro e w1 ⟨rfl, rfl⟩) | (refine (n1 _).mono ?_; rintro e w1 ⟨rfl, rfl⟩))
    go_ret
    exact ⟨rfl, rfl⟩
  · rw [if_neg h1]
    by_cases h2 : b < a
    · rw [if_pos h2]
      have h3 : a > b := h2
      go_enter Try.func69, Try.ntmps69
      go_wp2_with (go_at_call 74; first | (refine (n0 _).mono ?_; rintro e w1 ⟨rfl, rfl⟩) | (refine (n1 _).mono ?_; rintro e w1 ⟨rfl, rfl⟩))
      go_ret
      exact ⟨rfl, rfl⟩
    · rw [if_neg h2]
      have h3 : ¬ a > b := h2
      go_enter Try.func69, Try.ntmps69
      go_wp2_with (go_at_call 74; first | (refine (n0 _).mono ?_; rintro e w1 ⟨rfl, rfl⟩) | (refine (n1 _).mono ?_; rintro e w1 ⟨rfl, rfl⟩))
      go_ret
      exact ⟨rfl, rfl⟩
set_option maxRecDepth 100000 in
set_option maxHeartbeats 1000000 in
theorem order_any (x y : Sl) (W : World) : Calls Try.prog 68 #[.agg #[.int .i64 x.f, .int .i64 x.t, .int .i64 x.r], .agg #[.int .i64 y.f, .int .i64 y.t, .int .i64 y.r]] W fun e w' => e = .returned (.int .i64 (cmpI x.f y.f)) ∧ ∃ q os', w' = grow (W.drewN q) os' := by
  have hcon := fun W' => compare_any x.f y.f W'
  generalize cmpI x.f y.f = r at hcon ⊢
  go_enter Try.func68, Try.ntmps68
  go_wp2_with (go_at_call 69; refine (hcon _).mono ?_; rintro e w' ⟨rfl, rfl⟩)
  go_ret
  exact ⟨rfl, 0, _, by rw [alloc_eq_grow, alloc_eq_grow, grow_grow]; rfl⟩
theorem lt_from (x y : Sl) : ltOf (fun x y : Sl => cmpI x.f y.f) x y = decide (x.f < y.f) := by
  unfold ltOf cmpI
  by_cases h1 : x.f < y.f
  · simp [h1]
  · by_cases h2 : y.f < x.f <;> simp [h1, h2]
theorem swo_from : SWO (ltOf fun x y : Sl => cmpI x.f y.f) where
  irrefl x := by rw [lt_from]; simp
  trans x y z h1 h2 := by rw [lt_from] at *; simp at *; omega
  ntrans x y z h1 h2 := by rw [lt_from] at *; simp at *; omega
theorem holds_of_own {B : Nat} {e : TypeId} {w : World} {g cap : Nat} {l : List Sl} (h : w.ownsRow B e 3 (.slice (some ⟨g, 0, none⟩) l.length cap) l.length (rowL slL l)) : HoldsK slL 3 w g 0 l.toArray := by
  intro t ht
  rw [size_flatK] at ht
  have ht' : t < l.length * 3 := by simpa using ht
  have hi : t / 3 < l.length := by omega
  refine ⟨?_, by rw [Nat.zero_add]; exact h.frozenAt t⟩
  rw [get_flatK _ _ _ _ ht, Nat.zero_add, h.cellAt t ht']
  have hj : t % 3 < (slL l[t / 3]).length := by rw [slL_len]; omega
  have := rowL_at slL_len l (t / 3) hi (t % 3) (slL l[t / 3])[t % 3] (by rw [List.getElem?_eq_getElem hj])
  rw [show t / 3 * 3 + t % 3 = t by omega] at this
  rw [this]
  have e1 : l.toArray[t / 3]! = l[t / 3] := by simp [hi]
  rw [e1, getElem!_pos (slL l[t / 3]) (t % 3) hj]
  rfl
theorem cs_of_holds {w : World} {g : Nat} {d : Array Sl} (h : HoldsK slL 3 w g 0 d) : Cs slL w g 0 d.toList := by
  intro k u hk
  obtain ⟨i, j, hi, rfl, hv⟩ := rowL_inv slL_len d.toList k u hk
  have hi' : i < d.size := by simpa using hi
  have hj := (List.getElem?_eq_some_iff.1 hv).1
  rw [slL_len] at hj
  have := (h (i * 3 + j) (by rw [size_flatK]; omega)).1
  rw [get_flatK _ _ _ _ (by omega), show (i * 3 + j) / 3 = i by omega, show (i * 3 + j) % 3 = j by omega] at this
  have e1 : d[i]! = d.toList[i] := by rw [getElem!_pos d i hi']; simp
  rw [e1] at this
  rw [this]
  have hj2 : j < (slL d.toList[i]).length := by rw [slL_len]; exact hj
  rw [List.getElem?_eq_getElem hj2] at hv
  rw [getElem!_pos (slL d.toList[i]) j hj2]
  exact hv
theorem grown_sorted {w : World} {g n : Nat} {os : Array Obj} (d : Array Sl) : w.grownBy (sortWorldK slL 3 w g 0 n d os) (some g) := by
  refine ⟨rfl, rfl, rfl, size_sortWorldK_c _ _ _ _ _ _ _ _, fun k hk hne => ?_⟩
  unfold sortWorldK putRowK
  rw [heap_grow_old _ _ (by simpa using hk)]
  have : g ≠ k := fun e => hne (by rw [e])
  simp [putRow, mapBlock, Sort.ahead, Array.getElem?_modify, this]
set_option maxHeartbeats 1000000 in
theorem sort_any (B : Nat) (v : Value) (l : List Sl) (w : World) (own : w.ownsRow B 40 3 v l.length (rowL slL l)) (hb : l.length ≤ 1000000000) :
    Calls Try.prog 67 #[v, .func (.func 68) #[] #[]] w fun e w' => e = .returned (.tuple #[]) ∧ ∃ d, d.Perm l ∧ ByFrom d ∧ RowAt slL (fun k => B ≤ k) w' v d ∧ w.grownBy w' v.ownBlock := by
  rcases own.2 with ⟨rfl, h0⟩ | ⟨g, cap, cur, rfl, hbase, hg, h1, h2, h3, h4⟩
  · obtain rfl : l = [] := List.eq_nil_of_length_eq_zero h0
    refine (AnyF.slices_SortFunc_none lays none 0 _ w).mono ?_
    rintro e w' ⟨rfl, rfl⟩
    exact ⟨rfl, [], List.Perm.refl _, List.Pairwise.nil, RowAt.nil _ _ _, World.grownBy.refl _ _⟩
  · have eg : ∀ args w, (callFunc 68 args).run Try.prog w = .ok (.enter 68 args) w := enters_of Try.func68 (by kernel_rfl) rfl
    have hH := holds_of_own own
    have hgl : g < w.heap.size := (Array.getElem?_eq_some_iff.1 hg).1
    have hcon := AnyQ.slices_SortFunc lays 3 Try.isAgg40 Try.sizeOf40 slL (fun _ => rfl) (fun x v hv => by simp [slL] at hv; rcases hv with rfl | rfl | rfl <;> rfl) (fun x y => cmpI x.f y.f) swo_from 68 #[] g 0 cap l.toArray w eg (fun _ _ _ _ x y => order_any x y _) hH hgl (by simp; omega)
    rw [show l.toArray.size = l.length by simp] at hcon
    refine hcon.mono ?_
    rintro e w' ⟨rfl, d, n, os, ⟨hd1, hd2, hd3⟩, hs, rfl⟩
    have hz : d.size = l.length := by rw [hd1]; simp
    have hp : d.toList.Perm l := by
      have e1 : (d.extract 0 l.length) = d := by rw [← hz]; simp
      have e2 : (l.toArray.extract 0 l.length) = l.toArray := by simp
      rw [e1, e2] at hd3
      simpa using hd3
    have hl : d.toList.length = l.length := by simpa using hz
    refine ⟨rfl, d.toList, hp, ?_, ?_, grown_sorted d⟩
    · refine List.pairwise_iff_getElem.2 fun i j hi hj hij => ?_
      have := hs i j (Nat.zero_le _) hij (by omega)
      rw [lt_from] at this
      have i1 : i < d.size := by simpa using hi
      have j1 : j < d.size := by simpa using hj
      rw [getElem!_pos d i i1, getElem!_pos d j j1] at this
      simp at this
      simp
      omega
    · refine Or.inr ⟨g, 0, cap, by rw [hl], by omega, h2, fun _ => hbase, cs_of_holds (holdsK_sortWorldK_c _ _ _ _ _ _ _ _ _ hH hgl (by simpa using hz))⟩
end Go.Proofs.Ytddkgkafgjdheaa.Rs
