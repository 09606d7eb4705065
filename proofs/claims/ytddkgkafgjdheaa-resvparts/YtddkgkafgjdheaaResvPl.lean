/-
  Two tables that were asked the same calls.
-/
import Derived.Test.YtddkgkafgjdheaaResvDo
import Derived.Test.YtddkgkafgjdheaaResvInS
namespace Go.Proofs.Ytddkgkafgjdheaa.Rs
set_option linter.unusedVariables false
set_option linter.unusedSimpArgs false
open Go Go.RowKit Go.Shelf Go.Proofs Hp

def Pl (w00 : World) (b c i : Nat) (w : World) : Prop := ∃ (F G : Nat → Prop) (ls : List (List Sl)), TAt F w b ls ∧ TAt G w c ls ∧ (∀ k, G k → ¬ F k) ∧ Below w00.heap.size w00 w ∧ (∀ k, F k → w00.heap.size ≤ k) ∧ (∀ k, G k → w00.heap.size ≤ k) ∧ OkT ls ∧ Small (60 * i) ls ∧ ls.length = 6
theorem Pl.start {w00 w1 w2 : World} {b c : Nat} {F G : Nat → Prop} (T1 : TAt F w1 b (List.replicate 6 [])) (b1 : Below w00.heap.size w00 w1) (f1 : ∀ k, F k → w00.heap.size ≤ k) (T2 : TAt G w2 c (List.replicate 6 [])) (b2 : Below w1.heap.size w1 w2) (f2 : ∀ k, G k → w1.heap.size ≤ k) : Pl w00 b c 0 w2 :=
  ⟨F, G, _, T1.go b2, T2, fun k hg hf => by have := T1.low k hf; have := f2 k hg; omega, bcat b1 b2, f1, fun k hk => Nat.le_trans b1.size (f2 k hk), bare_ok 6, bare_small 6 _, by simp⟩
theorem Pl.bw {w00 w : World} {b c i : Nat} (h : Pl w00 b c i w) : Below w00.heap.size w00 w := by
  obtain ⟨F, G, ls, _, _, _, h, _⟩ := h; exact h
theorem do_turn {w00 : World} {b c i : Nat} {w : World} (h : Pl w00 b c i w) (hi : i < 60) (x : Cl) (hin : InW w00 x.a x.n x.cap x.ws) (hn : x.n ≤ 60) : Calls Try.prog 16 #[.pointer (some ⟨b, 0, none⟩), .pointer (some ⟨c, 0, none⟩), .agg #[.int .i64 x.kd, .int .i64 x.r, .int .i64 x.c, .int .i64 x.ti, .int .i64 x.by_, .slice x.a x.n x.cap]] w fun e w' => e = .returned (.bool true) ∧ Pl w00 b c (i + 1) w' := by
  obtain ⟨F, G, ls, TF, TG, ho, hb, fF, fG, ok, sm, hl⟩ := h
  refine (do_any w00 F G b c ls x.kd x.r x.c x.ti x.by_ x.a x.n x.cap x.ws (60 * i) w hin hn TF TG ho hb fF fG ok sm (by omega) (by omega) (by omega)).mono fun e w' ⟨F', G', l', he, h1, h2, h3, h4, h5, h6, h7, h8, h9⟩ => ⟨he, F', G', l', h1, h2, h3, h4, h5, h6, h7, h8, by omega⟩
end Go.Proofs.Ytddkgkafgjdheaa.Rs
