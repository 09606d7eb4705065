/-
  What is wanted, cell by cell; as many lists of one's own, each of which grows.
-/
import Derived.Test.YtddkgkafgjdheaaResvWrong
namespace Go.Proofs.Ytddkgkafgjdheaa.Rs
set_option linter.unusedVariables false
set_option linter.unusedSimpArgs false
open Go Go.RowKit Go.Shelf Go.Proofs Hp
attribute [local go_sem] Oper.semAt_some

def moreOf (R : Int) (ws : List Wn) (c : Int) : List Sl := (ws.filter fun x => decide (x.c = c)).map fun x => ⟨x.f, x.t, R⟩
theorem moreOf_in {R : Int} {ws : List Wn} {c : Int} {s : Sl} (h : s ∈ moreOf R ws c) : ∃ x ∈ ws, x.c = c ∧ s = ⟨x.f, x.t, R⟩ := by
  unfold moreOf at h
  obtain ⟨x, hx, rfl⟩ := List.mem_map.1 h
  obtain ⟨h1, h2⟩ := List.mem_filter.1 hx
  exact ⟨x, h1, by simpa using h2, rfl⟩
theorem in_moreOf {R : Int} {ws : List Wn} {x : Wn} (h : x ∈ ws) : (⟨x.f, x.t, R⟩ : Sl) ∈ moreOf R ws x.c := by
  unfold moreOf
  exact List.mem_map.2 ⟨x, List.mem_filter.2 ⟨h, by simp⟩, rfl⟩
theorem moreOf_len (R : Int) (ws : List Wn) (c : Int) : (moreOf R ws c).length ≤ ws.length := by
  unfold moreOf; rw [List.length_map]; exact List.length_filter_le _ _
theorem moreOf_r {R : Int} {ws : List Wn} {c : Int} : ∀ s ∈ moreOf R ws c, s.r = R := fun s hs => by
  obtain ⟨x, _, _, rfl⟩ := moreOf_in hs; rfl
theorem moreOf_fit {R : Int} {ws : List Wn} {c : Int} {n : Nat} (hR : 0 ≤ R) (h : ws.any (badW n) = false) : ∀ s ∈ moreOf R ws c, Fit s := fun s hs => by
  obtain ⟨x, hx, _, rfl⟩ := moreOf_in hs
  have := List.any_eq_false.1 h x hx
  simp [badW] at this
  exact ⟨by simp only; omega, by simp only; omega, by simp only; unfold FV at this; unfold FV; omega, hR⟩
theorem moreOf_snoc (R : Int) (ws : List Wn) (x : Wn) (c : Int) : moreOf R (ws ++ [x]) c = moreOf R ws c ++ (if x.c = c then [⟨x.f, x.t, R⟩] else []) := by
  unfold moreOf
  rw [List.filter_append, List.map_append]
  by_cases h : x.c = c <;> simp [h]
def msOf (R : Int) (ws : List Wn) (n : Nat) : List (List Sl) := (List.range n).map fun c => moreOf R ws (c : Nat)
theorem msOf_len (R : Int) (ws : List Wn) (n : Nat) : (msOf R ws n).length = n := by simp [msOf]
theorem msOf_at (R : Int) (ws : List Wn) (n i : Nat) (h : i < (msOf R ws n).length) : (msOf R ws n)[i] = moreOf R ws (i : Nat) := by simp [msOf]
theorem msOf_nil (R : Int) (n : Nat) : msOf R [] n = List.replicate n [] := by
  apply List.ext_getElem
  · simp [msOf]
  · intro i h1 h2; simp [msOf, moreOf]
theorem msOf_snoc (R : Int) (ws : List Wn) (n : Nat) (x : Wn) (c : Nat) (hx : x.c = (c : Nat)) (hc : c < n) : msOf R (ws ++ [x]) n = (msOf R ws n).set c (moreOf R ws (c : Nat) ++ [⟨x.f, x.t, R⟩]) := by
  apply List.ext_getElem
  · simp [msOf]
  · intro i h1 h2
    rw [List.getElem_set]
    simp only [msOf, List.getElem_map, List.getElem_range]
    rw [moreOf_snoc, hx]
    by_cases h : c = i
    · subst h; simp
    · rw [if_neg h, if_neg (by omega)]; simp
structure MoreIn (B : Nat) (w : World) (gm n : Nat) (vals : List Value) (ms : List (List Sl)) : Prop where
  row : w.ownsRow B 37 1 (.slice (some ⟨gm, 0, none⟩) n n) n vals
  len : vals.length = n
  lm : ms.length = n
  each : ∀ i (h : i < vals.length) (h' : i < ms.length), w.ownsRow B 40 3 vals[i] ms[i].length (rowL slL ms[i])
  off : ∀ i (h : i < vals.length), (vals[i]).ownBlock ≠ some gm
  apart : ∀ i j (hi : i < vals.length) (hj : j < vals.length), i ≠ j → ∀ k, (vals[i]).ownBlock = some k → (vals[j]).ownBlock ≠ some k
section
variable {B : Nat} {w w' : World} {gm n : Nat} {vals : List Value} {ms : List (List Sl)}
theorem MoreIn.go (h : MoreIn B w gm n vals ms) (hb : Below w.heap.size w w') : MoreIn B w' gm n vals ms :=
  ⟨owns_go h.row hb, h.len, h.lm, fun i h1 h2 => owns_go (h.each i h1 h2) hb, h.off, h.apart⟩
theorem MoreIn.gm_lt (h : MoreIn B w gm n vals ms) : B ≤ gm ∧ gm < w.heap.size := own_since h.row gm rfl
theorem MoreIn.cell (h : MoreIn B w gm n vals ms) (i : Nat) (hi : i < vals.length) : w.cell? ⟨gm, i, none⟩ = some vals[i] := by
  rw [h.row.cellAt _ (by have := h.len; omega), List.getElem?_eq_getElem hi]
theorem MoreIn.start (w : World) (n : Nat) (hm : n ≤ 1000000) (B : Nat) (hB : B ≤ w.heap.size) : MoreIn B (w.alloc (.cells (bareRow n) 37)) w.heap.size n (List.replicate n (.slice none 0 0)) (List.replicate n []) := by
  have o1 := World.ownsRow_lit (base := B) (e := 37) (size := 1) w (bareRow n) n hB (by unfold maxLen; omega) (by simp [bareRow])
  refine ⟨by simpa [bareRow] using o1, by simp, by simp, fun i h1 h2 => ?_, fun i h => ?_, fun i j hi hj _ k hk => ?_⟩
  · simp only [List.getElem_replicate]; exact World.ownsRow_nil _ _ _ _
  · simp only [List.getElem_replicate]; intro e; cases e
  · simp only [List.getElem_replicate] at hk; cases hk
theorem MoreIn.push (h : MoreIn B w gm n vals ms) (c : Nat) (hc : c < vals.length) (hc' : c < ms.length) (x : Sl) (v' : Value) (o : w'.ownsRow B 40 3 v' (ms[c] ++ [x]).length (rowL slL (ms[c] ++ [x]))) (g : w.grownBy w' (vals[c]).ownBlock) (a : v'.ownBlock = (vals[c]).ownBlock ∨ v'.ownBlock = some w.heap.size) :
    MoreIn B (w'.setCell ⟨gm, c, none⟩ v') gm n (vals.set c v') (ms.set c (ms[c] ++ [x])) := by
  have hg := h.gm_lt
  have hgm : w'.heap[gm]? = w.heap[gm]? := g.block gm hg.2 (fun e => h.off c hc e.symm)
  have ho1 : v'.ownBlock ≠ some gm := by
    rcases a with e | e
    · rw [e]; exact h.off c hc
    · rw [e]; intro q; cases q; omega
  have hst : ∀ k, k ≠ gm → (w'.setCell ⟨gm, c, none⟩ v').heap[k]? = w'.heap[k]? := fun k hk => Below.heap_setCell _ _ _ k hk
  have hr := (owns_same h.row (w' := w') (fun k hk => by cases hk; exact hgm)).stored c v' |>.1
  have hother : ∀ j (hj : j < vals.length), j ≠ c → ∀ k, (vals[j]).ownBlock = some k → v'.ownBlock ≠ some k := fun j hj hne k hk => by
    rcases a with e | e
    · rw [e]; exact fun q => h.apart j c hj hc hne k hk q
    · rw [e]; intro q; cases q
      have := own_since (h.each j hj (by have := h.len; have := h.lm; omega)) _ hk
      omega
  refine ⟨by simpa using hr, by rw [List.length_set]; exact h.len, by rw [List.length_set]; exact h.lm, fun i h1 h2 => ?_, fun i h1 => ?_, fun i j hi hj hne k hk => ?_⟩
  · rw [List.length_set] at h1 h2
    by_cases e : c = i
    · subst e
      simp only [List.getElem_set_self]
      exact owns_same o fun k hk => hst k (fun e => ho1 (by rw [hk, e]))
    · simp only [List.getElem_set_ne e]
      refine owns_same (h.each i h1 h2) fun k hk => (hst k (fun e2 => h.off i h1 (by rw [hk, e2]))).trans (g.block k (own_since (h.each i h1 h2) k hk).2 (fun e2 => h.apart i c h1 hc (fun q => e q.symm) k hk e2.symm))
  · rw [List.length_set] at h1
    by_cases e : c = i
    · subst e; simp only [List.getElem_set_self]; exact ho1
    · simp only [List.getElem_set_ne e]; exact h.off i h1
  · rw [List.length_set] at hi hj
    by_cases e : c = i
    · subst e
      simp only [List.getElem_set_self] at hk
      rw [List.getElem_set_ne hne]
      exact fun q => hother j hj (fun e => hne e.symm) k q hk
    · simp only [List.getElem_set_ne e] at hk
      by_cases e2 : c = j
      · subst e2
        simp only [List.getElem_set_self]
        exact hother i hi (fun q => e q.symm) k hk
      · simp only [List.getElem_set_ne e2]
        exact h.apart i j hi hj hne k hk
end
end Go.Proofs.Ytddkgkafgjdheaa.Rs
