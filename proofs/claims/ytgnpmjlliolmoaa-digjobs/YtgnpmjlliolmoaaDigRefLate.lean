/-
  The chapter's own Jobs where the bin is found at a cell that is not touched.
-/
import Derived.Test.YtgnpmjlliolmoaaDigRefLateA
import Derived.Test.YtgnpmjlliolmoaaDigRefLateB
import Derived.Test.YtgnpmjlliolmoaaDgI
import Derived.Deep.DeepCutAuto
import Derived.Deep.CutRange
namespace Go.Proofs.Ytgnpmjlliolmoaa.Dig
set_option linter.unusedVariables false
set_option linter.unusedSimpArgs false
open Go Go.RowKit Go.Shelf Go.Proofs Go.Proofs.Ytgnpmjlliolmoaa.Grid Go.Proofs.Ytgnpmjlliolmoaa.Srt
attribute [local go_sem] Oper.semAt_some

theorem refJobs_late {F : Nat → Prop} {c : Conf} {v1 v2 v3 v4 : Value} {w : World} (hA : ConfAt F c v1 v2 v3 v4 w) (hF : ∀ b, F b → b < w.heap.size) (l1 : c.blocked.length ≤ 8796093022208) (l2 : c.ports.length ≤ 8796093022208) (l3 : c.robots.length ≤ 5864062014805) (l4 : c.stacks.length ≤ 3518437208880) (l5 : ∀ s ∈ c.stacks, s.2.length ≤ 17592186044416) {G : GS} (hN : newP c = some G)
    (Fs : Nat → Prop) (stks : List Stk) (sa : Option Addr) (sn sc : Nat) (hS : ListAt 3 stackEl Fs stks (.slice sa sn sc) w) (hFs : ∀ b, Fs b → b < w.heap.size) (hsn : sn ≤ 1000000) (hp : ∀ x, (pileOf stks x).length ≤ 17592186044416)
    (Ft : Nat → Prop) (tl : List Cell) (ta : Option Addr) (tn tc : Nat) (hT : ListAt 2 cellEl Ft tl (.slice ta tn tc) w) (hFt : ∀ b, Ft b → b < w.heap.size) (htn : tn ≤ 1000000) (bin : Int) (port : Cell) (n0 j : Nat) (hFd : Fd stks (stkUpTo c.W G.uses G.uses.length) bin n0 j)
    (hn0L : n0 < (stkUpTo c.W G.uses G.uses.length).length) (hport : ¬ portP c.ports port 0 < 0) (x : Cell) (hx : (stkUpTo c.W G.uses G.uses.length).getD n0 (0, 0) = x) (hxt : x ∉ tl) (P : List Cell) (hP : Places stks c.height (stkUpTo c.W G.uses G.uses.length) tl x P) (hPl : P.length ≤ 256000) :
    Calls Try.prog 11 #[.agg #[.int .i64 c.W, .int .i64 c.H, .int .i64 c.height, v1, v2, v3, v4, .int .i64 c.unit, .int .i64 c.accel, .int .i64 c.speed, .int .i64 c.turn, .int .i64 c.hoist, .int .i64 c.queue, .int .i64 c.resend, .int .i64 c.budget, .bool c.back], .slice sa sn sc, .slice ta tn tc, .int .i64 bin, .agg #[.int .i64 port.1, .int .i64 port.2]] w fun e w' => ∃ r, e = .returned r ∧ (∃ v rr ee, r = .tuple #[v, .int .i64 ee] ∧ ((P.length < ((pileOf stks x).drop (j + 1)).length ∧ rr = [] ∧ ee = 14) ∨ (((pileOf stks x).drop (j + 1)).length ≤ P.length ∧ rr = jobsP ((pileOf stks x).drop (j + 1)) x P bin port c.back ∧ ee = 0)) ∧ w'.ownsRow w.heap.size 45 9 v rr.length (rowL jobL rr)) ∧ Below w.heap.size w w' := by
  by_cases hsel : n0 + 1 < (stkUpTo c.W G.uses G.uses.length).length
  · exact refJobs_lateA hA hF l1 l2 l3 l4 l5 hN Fs stks sa sn sc hS hFs hsn hp Ft tl ta tn tc hT hFt htn bin port n0 j hFd hn0L hport x hx hxt P hP hPl hsel
  · exact refJobs_lateB hA hF l1 l2 l3 l4 l5 hN Fs stks sa sn sc hS hFs hsn hp Ft tl ta tn tc hT hFt htn bin port n0 j hFd hn0L hport x hx hxt P hP hPl hsel
end Go.Proofs.Ytgnpmjlliolmoaa.Dig
