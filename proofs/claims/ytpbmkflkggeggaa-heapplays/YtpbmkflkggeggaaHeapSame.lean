/-
  all: what a heap's iterator tells, at most so many; whether two lists are the same.
-/
import Derived.Test.YtpbmkflkggeggaaHeapAll
namespace Go.Proofs.Ytpbmkflkggeggaa.Hp
set_option linter.unusedVariables false
set_option linter.unusedSimpArgs false
open Go Go.RowKit Go.Shelf Go.Proofs
attribute [local go_sem] Oper.semAt_some

theorem allfn_any (b : Nat) (w : World) : Calls Try.prog 40 #[.pointer (some ⟨b, 0, none⟩)] w fun e w' => e = .returned (.func (.func 49) #[] #[.pointer (some ⟨w.heap.size, 0, none⟩)]) ∧ w' = w.alloc (.cells #[.pointer (some ⟨b, 0, none⟩)] 24) := by
  have hmf : ∀ (fn : Fn) (first cap : Array Value) (w : World), (Instr.makeFunc fn first cap).run Try.prog w = .ok (.func fn first cap) w := fun _ _ _ _ => rfl
  go_enter Try.func40, Try.ntmps40
  go_wp2
  go_ret
  exact ⟨rfl, rfl⟩
theorem eql_seq (u : World) (p : Value) : (binOp .eql 71 (.func (.func 49) #[] #[p]) .nilFunc).run Try.prog u = .ok (.bool false) u := by kernel_rfl
set_option maxRecDepth 100000 in
set_option maxHeartbeats 2000000 in
theorem all_any (B0 b : Nat) (v : Value) (s : List It) (c : Nat) (most : Int) (w : World) (hH : HpAt B0 w b v s c) (hm : s.length ≤ 100000) (h1 : 1 ≤ most) (h2 : most ≤ 100000) :
    Calls Try.prog 21 #[.pointer (some ⟨b, 0, none⟩), .int .i64 most] w fun e w' => ∃ x, e = .returned x ∧ w'.ownsRow w.heap.size 27 2 x ((s.map vOf).take most.toNat).length (rowL vL ((s.map vOf).take most.toNat)) ∧ Below w.heap.size w w' := by
  have hmf : ∀ (fn : Fn) (first cap : Array Value) (w : World), (Instr.makeFunc fn first cap).run Try.prog w = .ok (.func fn first cap) w := fun _ _ _ _ => rfl
  have eq0 := eql_seq
  have hbl := hH.lt
  have hvl := fun k hk => (hH.own k hk).2.1
  obtain ⟨A, hA⟩ : ∃ A, ((w.alloc (.cells #[.int .i64 most] 3)).alloc (.cells #[.pointer (some ⟨b, 0, none⟩)] 24)).alloc (.cells #[.slice none 0 0] 30) = A := ⟨_, rfl⟩
  have bA : Below w.heap.size w A := by rw [← hA]; exact (((Below.refl _ _).alloc (Nat.le_refl _) _).alloc (by simp) _).alloc (by rw [World.size_alloc, World.size_alloc]; omega) _
  have lA : Boxed A (w.heap.size + 1 + 1) 30 (.slice none 0 0) := by
    rw [← hA]
    have := Boxed.new ((w.alloc (.cells #[.int .i64 most] 3)).alloc (.cells #[.pointer (some ⟨b, 0, none⟩)] 24)) 30 (.slice none 0 0)
    rw [World.size_alloc, World.size_alloc] at this
    exact this
  have mA : Boxed A w.heap.size 3 (.int .i64 most) := by rw [← hA]; exact ((Boxed.new _ _ _).alloc _).alloc _
  have pA : A.cell? ⟨w.heap.size + 1, 0, none⟩ = some (.pointer (some ⟨b, 0, none⟩)) := by
    rw [← hA]
    have := (Boxed.new (w.alloc (.cells #[.int .i64 most] 3)) 24 (.pointer (some ⟨b, 0, none⟩))).alloc (.cells #[.slice none 0 0] 30)
    rw [World.size_alloc] at this
    exact this.cell
  have cF := allfn_any b (w.alloc (.cells #[.int .i64 most] 3))
  have cA := callsIn_wide.1 (all1_in w.heap.size B0 b (w.heap.size + 1) (w.heap.size + 1 + 1) w.heap.size v s c most A (hH.go bA) hm pA (by omega) lA mA (by omega) h1 h2 (by omega) (fun e => by have := hvl _ e; omega) (by omega))
  have hge : ¬ most < 1 := by omega
  generalize (s.map vOf).take most.toNat = xs at cA ⊢
  clear hH lA mA pA
  go_enter Try.func21, Try.ntmps21
  go_wp2_with fail
  go_at_call 40
  refine cF.mono ?_
  rintro e w1 ⟨rfl, rfl⟩
  go_wp2_with fail
  try rw [hA]
  refine cA.mono ?_
  rintro e w2 ⟨rfl, T2, F2⟩
  obtain ⟨x, x1, x2, x3⟩ := T2.box
  have xc := x1.cell
  obtain ⟨xa, xp, rfl, _⟩ := own_form x2
  go_wp2
  go_ret
  exact ⟨_, rfl, x2, ⟨F2.os.trans bA.os, F2.tape.trans bA.tape, F2.output.trans bA.output, Nat.le_trans bA.size F2.size, fun k hk => (F2.block k (Nat.lt_of_lt_of_le hk bA.size) (by omega)).trans (bA.block k hk)⟩⟩
/- A row of things, place by place. -/
theorem v_form {B : Nat} {w : World} {x : Value} {xs : List (Int × Int)} (hr : w.ownsRow B 27 2 x xs.length (rowL vL xs)) : ∃ a cap, x = .slice a xs.length cap ∧ ∀ i (hi : i < xs.length), ∃ g, a = some ⟨g, 0, none⟩ ∧ w.cell? ⟨g, i * 2, none⟩ = some (.int .i64 (xs[i]).1) ∧ w.cell? ⟨g, i * 2 + 1, none⟩ = some (.int .i64 (xs[i]).2) := by
  rcases hr.2 with ⟨rfl, q⟩ | ⟨g, cap, cur, rfl, hb, hg, hnc, hcm, hcs, htake⟩
  · exact ⟨none, 0, by rw [q], fun i hi => by omega⟩
  · refine ⟨_, cap, rfl, fun i hi => ⟨g, rfl, ?_⟩⟩
    have q : ∀ j u, (vL xs[i])[j]? = some u → w.cell? ⟨g, i * 2 + j, none⟩ = some u := fun j u hj => by
      have hk := rowL_at vL_len xs i hi j u hj
      have := (List.getElem?_eq_some_iff.1 hk).1
      rw [rowL_len vL_len] at this
      rw [hr.cellAt _ this]
      exact hk
    exact ⟨q 0 _ rfl, q 1 _ rfl⟩
set_option maxRecDepth 100000 in
set_option maxHeartbeats 2000000 in
theorem same_any (B1 B2 : Nat) (x y : Value) (xs ys : List (Int × Int)) (w : World) (hx : w.ownsRow B1 27 2 x xs.length (rowL vL xs)) (hy : w.ownsRow B2 27 2 y ys.length (rowL vL ys)) (hm : xs.length ≤ 100000) (he : xs = ys) :
    Calls Try.prog 20 #[x, y] w fun e w' => e = .returned (.bool true) ∧ Below w.heap.size w w' := by
  subst he
  obtain ⟨xa, xc, rfl, fx⟩ := v_form hx
  obtain ⟨ya, yc, rfl, fy⟩ := v_form hy
  have HX : Hid (∀ i (hi : i < xs.length), ∃ g, xa = some ⟨g, 0, none⟩ ∧ w.cell? ⟨g, i * 2, none⟩ = some (.int .i64 (xs[i]).1) ∧ w.cell? ⟨g, i * 2 + 1, none⟩ = some (.int .i64 (xs[i]).2)) := fx
  have HY : Hid (∀ i (hi : i < xs.length), ∃ g, ya = some ⟨g, 0, none⟩ ∧ w.cell? ⟨g, i * 2, none⟩ = some (.int .i64 (xs[i]).1) ∧ w.cell? ⟨g, i * 2 + 1, none⟩ = some (.int .i64 (xs[i]).2)) := fy
  clear fx fy hx hy
  obtain ⟨n, hn⟩ : ∃ n, xs.length = n := ⟨_, rfl⟩
  have HN : Hid (xs.length = n) := hn
  rw [hn] at hm ⊢
  clear hn
  go_enter Try.func20, Try.ntmps20
  go_wp2
  go_loopw [5] (fun ix wr => ∃ i : Nat, ix = .int .i64 i ∧ i ≤ n ∧ Below w.heap.size w wr ∧ Hid (∀ p, wr.cell? p = w.cell? p)) (fun ix wr => n - (intOf ix).toNat)
  case atStart => exact ⟨0, rfl, Nat.zero_le _, Below.refl _ _, fun _ => rfl⟩
  case round =>
    obtain ⟨i, rfl, hi, br, hs⟩ := hrel
    by_cases hlt : i < n
    · have hlt' : (i : Int) < (n : Int) := by omega
      have hil : i < xs.length := by rw [HN.out]; exact hlt
      obtain ⟨g, rfl, x0, x1⟩ := HX.out i hil
      obtain ⟨g2, rfl, y0, y1⟩ := HY.out i hil
      rw [← hs.out] at x0 x1 y0 y1
      generalize (xs[i]).1 = p at *
      generalize (xs[i]).2 = r at *
      go_wp2
      go_quiet (fail)
      go_wp2
      go_roundw
      case rel => exact ⟨i + 1, by go_num, by omega, by first | exact br.drew | exact below_drewN br _, by first | (intro p; exact hs.out p) | trace_state⟩
      case measure => simp [intOf]; omega
    · obtain rfl : i = n := by omega
      go_wp2
      go_ret
      exact ⟨rfl, br⟩
end Go.Proofs.Ytpbmkflkggeggaa.Hp
