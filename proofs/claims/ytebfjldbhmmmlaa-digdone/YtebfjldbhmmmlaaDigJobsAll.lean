/-
  Jobs, whether the config may be or not; how many there can be.
-/
import Derived.Test.YtebfjldbhmmmlaaDigAwake
import Derived.Test.YtebfjldbhmmmlaaDigJobs
namespace Go.Proofs.Ytebfjldbhmmmlaa.Dig
set_option linter.unusedVariables false
set_option linter.unusedSimpArgs false
open Go Go.RowKit Go.Shelf Go.Proofs Go.Proofs.Ytebfjldbhmmmlaa.Grid Go.Proofs.Ytebfjldbhmmmlaa.Srt
attribute [local go_sem] Oper.semAt_some

theorem piles_lenJ {stks : List Stk} {m : Nat} (h : ∀ s ∈ stks, s.2.length ≤ m) (x : Cell) : (pileOf stks x).length ≤ m := by
  unfold pileOf
  split
  · rename_i s hs
    exact h s (List.mem_of_find?_eq_some hs)
  · exact Nat.zero_le _
/- How many jobs there can be. -/
theorem jobs_few {ports : List Cell} {stks : List Stk} {height : Int} {L tl : List Cell} {back : Bool} {bin : Int} {port : Cell} {r : List Jb} {e : Int} (h : JobsR ports stks height L tl back bin port r e) : r.length ≤ 1000000 := by
  rcases h with ⟨_, rfl, _⟩ | ⟨_, ⟨_, rfl, _⟩ | ⟨x, j, _, ⟨_, rfl, _⟩ | ⟨_, P, _, ⟨_, rfl, _⟩ | ⟨q1, q2, rfl, _⟩⟩⟩⟩
  · simp
  · simp
  · simp
  · simp
  · unfold jobsP
    have e1 := awaysP_len ((pileOf stks x).drop (j + 1)) x P ((pileOf stks x).drop (j + 1)).length
    split <;> simp only [List.length_append, List.length_reverse, List.length_map, List.length_cons, List.length_nil, e1] <;> omega
/- Jobs, whether the config may be or not. -/
theorem jobs_all {F : Nat → Prop} {c : Conf} {v1 v2 v3 v4 : Value} {w : World} (hA : ConfAt F c v1 v2 v3 v4 w) (hF : ∀ b, F b → b < w.heap.size) (l1 : c.blocked.length ≤ 8796093022208) (l2 : c.ports.length ≤ 8796093022208) (l3 : c.robots.length ≤ 5864062014805) (l4 : c.stacks.length ≤ 3518437208880) (Fs : Nat → Prop) (stks : List Stk) (sa : Option Addr) (sn sc : Nat) (hS : ListAt 3 stackElC Fs stks (.slice sa sn sc) w) (hFs : ∀ b, Fs b → b < w.heap.size) (hsn : sn ≤ 1000000) (hp : ∀ x, (pileOf stks x).length ≤ 17592186044416) (Ft : Nat → Prop) (tl : List Cell) (ta : Option Addr) (tn tc : Nat) (hT : ListAt 2 cellEl Ft tl (.slice ta tn tc) w) (hFt : ∀ b, Ft b → b < w.heap.size) (htn : tn ≤ 1000000) (bin : Int) (port : Cell) :
    Calls Try.prog 7 #[.agg #[.int .i64 c.W, .int .i64 c.H, .int .i64 c.height, v1, v2, v3, v4, .int .i64 c.unit, .int .i64 c.accel, .int .i64 c.speed, .int .i64 c.turn, .int .i64 c.hoist, .int .i64 c.queue, .int .i64 c.resend, .int .i64 c.budget, .bool c.back], .slice sa sn sc, .slice ta tn tc, .int .i64 bin, .agg #[.int .i64 port.1, .int .i64 port.2]] w fun e w' => ∃ rv, e = .returned rv ∧ (∃ r a cp ee, rv = .tuple #[.slice a r.length cp, .int .i64 ee] ∧ (newP c = none → r = [] ∧ ee = 5) ∧ (∀ G, newP c = some G → JobsR c.ports stks c.height (stkUpTo c.W G.uses G.uses.length) tl c.back bin port r ee) ∧ w'.ownsRow w.heap.size 41 9 (.slice a r.length cp) r.length (rowL jobL r)) ∧ Below w.heap.size w w' := by
  cases hN : newP c with
  | none =>
    refine (jobs_none hA hF l1 l2 l3 l4 hN _ _ bin port).mono ?_
    rintro e w' ⟨r, rfl, rfl, b⟩
    exact ⟨_, rfl, ⟨[], none, 0, 5, rfl, fun _ => ⟨rfl, rfl⟩, (fun G h => by cases h), World.ownsRow_nil _ _ _ _⟩, b⟩
  | some G =>
    refine (jobs_some hA hF l1 l2 l3 l4 hN Fs stks sa sn sc hS hFs hsn hp Ft tl ta tn tc hT hFt htn bin port).mono ?_
    rintro e w' ⟨rv, rfl, ⟨r, v, ee, rfl, hJ, own⟩, b⟩
    obtain ⟨a, cp, rfl, _⟩ := own_form own
    exact ⟨_, rfl, ⟨r, a, cp, ee, rfl, (fun h => by cases h), (fun G' h => by cases h; exact hJ), own⟩, b⟩
theorem own_itemJ {w : World} {b : Nat} {v : Value} {l : List Jb} (h : w.ownsRow b 41 9 v l.length (rowL jobL l)) {k : Nat} (hk : k < l.length) : ∃ p cap, v = .slice (some p) l.length cap ∧ ∀ j z, (jobL (l[k]'hk)).toArray[j]? = some z → w.cell? ((p.add (k * 9)).add j) = some z := by
  obtain ⟨p, cs, cap2, hv, _, hcs, hrd⟩ := (list_of_own kindJob.len h).item hk
  have hcs2 : cs = (jobL (l[k]'hk)).toArray := hcs
  subst hcs2
  exact ⟨p, cap2, hv, hrd⟩
end Go.Proofs.Ytebfjldbhmmmlaa.Dig
