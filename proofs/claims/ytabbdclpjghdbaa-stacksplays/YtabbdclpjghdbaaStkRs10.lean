/-
  The program's stacks and the chapter's own, side by side: in plain words, and in memory.
-/
import Derived.Test.YtabbdclpjghdbaaStkRs9
import Derived.Test.YtabbdclpjghdbaaStkRs6
import Derived.Test.YtabbdclpjghdbaaStkRs5
import Derived.Test.YtabbdclpjghdbaaStkRs3
namespace Go.Proofs.Ytabbdclpjghdbaa.Stk
set_option linter.unusedVariables false
set_option linter.unusedSimpArgs false
open Go Go.RowKit Go.Shelf Go.Proofs Go.Proofs.Ytabbdclpjghdbaa.Grid
attribute [local go_sem] Oper.semAt_some

def prS (p : Pile) : Stk := (p.1, p.2.2)
def upd (x : Cell) (bs : List Int) (s : Stk) : Stk := if s.1 = x then (x, bs) else s
theorem upd_fst (x : Cell) (bs : List Int) (s : Stk) : (upd x bs s).1 = s.1 := by
  unfold upd
  split
  · rename_i h; exact h.symm
  · rfl
theorem set_upd {l : List Pile} (hn : (l.map (fun p => p.1)).Nodup) {i : Nat} {p : Pile} (h : l[i]? = some p) (v : Value) (bs : List Int) : (l.set i (p.1, v, bs)).map prS = (l.map prS).map (upd p.1 bs) := by
  have hi := (List.getElem?_eq_some_iff.1 h).1
  apply List.ext_getElem?
  intro j
  rw [List.getElem?_map, List.getElem?_set, List.getElem?_map, List.getElem?_map]
  by_cases e : i = j
  · subst e
    rw [if_pos rfl, if_pos hi, h]
    show some (p.1, bs) = some (upd p.1 bs (prS p))
    unfold upd prS
    rw [if_pos rfl]
  · rw [if_neg e]
    cases hj : l[j]? with
    | none => rfl
    | some q =>
      show some (prS q) = some (upd p.1 bs (prS q))
      have hq : q.1 ≠ p.1 := fun e2 => by
        have hjl := (List.getElem?_eq_some_iff.1 hj).1
        have := (List.getElem_inj (h₀ := by simpa using hi) (h₁ := by simpa using hjl) hn).1 (by
          rw [List.getElem_map, List.getElem_map, (List.getElem?_eq_some_iff.1 h).2, (List.getElem?_eq_some_iff.1 hj).2]
          exact e2.symm)
        exact e this
      unfold upd
      rw [if_neg (by exact hq)]
/- The chapter's piles are the program's at the open cells, in order. -/
def Like (c : Conf) (us : List Int) (ps qs : List Pile) : Prop := qs.map prS = (ps.map prS).filter (fun s => openU c.W c.H us s.1)
theorem Like.set {c : Conf} {us : List Int} {ps qs : List Pile} (h : Like c us ps qs) (hp : (ps.map (fun p => p.1)).Nodup) (hq : (qs.map (fun p => p.1)).Nodup) {k i : Nat} {p q : Pile} (hk : ps[k]? = some p) (hi : qs[i]? = some q) (e : q.1 = p.1) (v v' : Value) (bs : List Int) : Like c us (ps.set k (p.1, v, bs)) (qs.set i (q.1, v', bs)) := by
  unfold Like at h ⊢
  rw [set_upd hp hk, set_upd hq hi, e, List.filter_map, h]
  congr 2
  funext s
  show openU c.W c.H us s.1 = openU c.W c.H us (upd p.1 bs s).1
  rw [upd_fst]
theorem Like.nodup {c : Conf} {us : List Int} {ps qs : List Pile} (h : Like c us ps qs) (hp : (ps.map (fun p => p.1)).Nodup) : (qs.map (fun p => p.1)).Nodup := by
  have e : ∀ l : List Pile, l.map (fun p => p.1) = (l.map prS).map Prod.fst := fun l => by rw [List.map_map]; rfl
  rw [e, h]
  rw [e] at hp
  exact hp.sublist (List.filter_sublist.map _)
theorem Like.no {c : Conf} {us : List Int} {ps qs : List Pile} (h : Like c us ps qs) {x : Cell} (ho : openU c.W c.H us x = false) : No qs x := fun j q hj e => by
  have hm : prS q ∈ qs.map prS := List.mem_map.2 ⟨q, List.mem_of_getElem? hj, rfl⟩
  rw [h] at hm
  have := (List.mem_filter.1 hm).2
  rw [show (prS q).1 = x from e, ho] at this
  cases this
theorem Like.hs {c : Conf} {us : List Int} {ps qs : List Pile} (h : Like c us ps qs) (hp : (ps.map (fun p => p.1)).Nodup) {k : Nat} {p : Pile} (hk : ps[k]? = some p) (ho : openU c.W c.H us p.1 = true) : ∃ i q, Hs qs p.1 i q ∧ q.2.2 = p.2.2 := by
  have hm : prS p ∈ (ps.map prS).filter (fun s => openU c.W c.H us s.1) := List.mem_filter.2 ⟨List.mem_map.2 ⟨p, List.mem_of_getElem? hk, rfl⟩, ho⟩
  rw [← h] at hm
  obtain ⟨q, hq, e⟩ := List.mem_map.1 hm
  have e1 : q.1 = p.1 := show (prS q).1 = (prS p).1 from congrArg Prod.fst e
  have e2 : q.2.2 = p.2.2 := show (prS q).2 = (prS p).2 from congrArg Prod.snd e
  obtain ⟨i, hi, hqi⟩ := List.getElem_of_mem hq
  refine ⟨i, q, ⟨by rw [List.getElem?_eq_getElem hi, hqi], e1, fun j r hj hr e3 => ?_⟩, e2⟩
  have hn := h.nodup hp
  have hjl := (List.getElem?_eq_some_iff.1 hr).1
  have := (List.getElem_inj (h₀ := by simpa using hi) (h₁ := by simpa using hjl) hn).1 (by
    rw [List.getElem_map, List.getElem_map, hqi, (List.getElem?_eq_some_iff.1 hr).2, e1, e3])
  omega
/- Where a bin is first met. -/
def firstS (bin : Int) : List Stk → Option (Cell × Int)
  | [] => none
  | s :: l => match s.2.idxOf? bin with
    | some j => some (s.1, (s.2.length : Int) - 1 - (j : Nat))
    | none => firstS bin l
theorem firstS_filter (bin : Int) (P : Stk → Bool) : ∀ l : List Stk, (∀ s ∈ l, P s = false → s.2 = []) → firstS bin (l.filter P) = firstS bin l
  | [], _ => rfl
  | s :: l, h => by
    have ih := firstS_filter bin P l fun s hs => h s (List.mem_cons_of_mem _ hs)
    by_cases hp : P s = true
    · rw [List.filter_cons_of_pos hp]
      show (match s.2.idxOf? bin with | some j => _ | none => firstS bin (l.filter P)) = (match s.2.idxOf? bin with | some j => _ | none => firstS bin l)
      rw [ih]
    · rw [List.filter_cons_of_neg hp, ih]
      have e := h s (List.mem_cons_self ..) (by simpa using hp)
      show _ = (match s.2.idxOf? bin with | some j => _ | none => firstS bin l)
      rw [e]
      rfl
theorem idx_first {bin : Int} : ∀ (l : List Int) (j : Nat), l[j]? = some bin → (∀ j', j' < j → l[j']? ≠ some bin) → l.idxOf? bin = some j
  | [], j, h, _ => by simp at h
  | a :: l, 0, h, _ => by
    simp at h
    subst h
    simp [List.idxOf?, List.findIdx?_cons]
  | a :: l, j + 1, h, hn => by
    have ha : a ≠ bin := fun e => hn 0 (by omega) (by rw [e]; rfl)
    have ih := idx_first l j (by simpa using h) fun j' hj' => by have := hn (j' + 1) (by omega); simpa using this
    unfold List.idxOf? at ih ⊢
    rw [List.findIdx?_cons, if_neg (by simpa using ha), ih]
    rfl
theorem idx_none {bin : Int} {l : List Int} (h : bin ∉ l) : l.idxOf? bin = none := by
  unfold List.idxOf?
  rw [List.findIdx?_eq_none_iff]
  intro x hx
  rw [beq_eq_false_iff_ne]
  exact fun e => h (e ▸ hx)
theorem first_found {bin : Int} : ∀ (ps : List Pile) {x : Cell} {up : Int}, Found ps bin x up → firstS bin (ps.map prS) = some (x, up)
  | [], x, up, ⟨i, j, p, h, _⟩ => by simp at h
  | a :: ps, x, up, ⟨0, j, p, h1, h2, h3, h4, h5, h6⟩ => by
    simp at h1
    subst h1
    show (match a.2.2.idxOf? bin with | some j => some (a.1, (a.2.2.length : Int) - 1 - (j : Nat)) | none => _) = _
    rw [idx_first _ j h3 h6, h2, h4]
  | a :: ps, x, up, ⟨i + 1, j, p, h1, h2, h3, h4, h5, h6⟩ => by
    have ha := h5 0 a (by omega) rfl
    show (match a.2.2.idxOf? bin with | some j => some (a.1, (a.2.2.length : Int) - 1 - (j : Nat)) | none => firstS bin (ps.map prS)) = _
    rw [idx_none ha]
    exact first_found ps ⟨i, j, p, by simpa using h1, h2, h3, h4, fun i' q hi hq => h5 (i' + 1) q (by omega) (by simpa using hq), h6⟩
theorem first_none {bin : Int} : ∀ (ps : List Pile), (∀ (i : Nat) (p : Pile), ps[i]? = some p → bin ∉ p.2.2) → firstS bin (ps.map prS) = none
  | [], _ => rfl
  | a :: ps, h => by
    show (match a.2.2.idxOf? bin with | some j => some (a.1, (a.2.2.length : Int) - 1 - (j : Nat)) | none => firstS bin (ps.map prS)) = _
    rw [idx_none (h 0 a rfl)]
    exact first_none ps fun i p hp => h (i + 1) p (by simpa using hp)
/- The program's stacks stand where what they are made of stands. -/
theorem StAt.same {K : Sk} {c : Conf} {us : List Int} {ps : List Pile} {ls : List Int} {w w' : World} (h : StAt K c us ps ls w) (hz : w.heap.size ≤ w'.heap.size) (e : ∀ b, b < K.b1 ∨ Foot K ps b → w'.heap[b]? = w.heap[b]?) : StAt K c us ps ls w' := by
  have hs0 := h.s0
  have hs1 := h.s1
  have hg0 := h.g0
  have hu0 := h.u0
  exact { h with
    hd := (e _ (Or.inl h.s1)).trans h.hd
    grid := h.grid.same (e _ (Or.inl (by omega))) (e _ (Or.inl (by omega)))
    ports := h.ports.stable heldCell fun b hb => e b (Or.inl (by omega))
    pil := (e _ (Or.inl h.p1)).trans h.pil
    lds := (e _ (Or.inl h.l1)).trans h.lds
    own := fun i p hp => owns_same (h.own i p hp) fun k hk => e k (Or.inr (Or.inr (Or.inr ⟨i, p, hp, hk⟩)))
    big := Nat.le_trans h.big hz }
/- Both in memory, apart from one another. -/
structure Both (KP : Sk) (KR : Rk) (c : Conf) (us : List Int) (cs : Array Value) (vc : Value) (ps qs : List Pile) (ls : List Int) (w : World) : Prop where
  st : StAt KP c us ps ls w
  rs : RsAt w KR cs vc qs ls
  like : Like c us ps qs
  nd : (ps.map (fun p => p.1)).Nodup
  far : KP.b1 ≤ KR.B
  dj : ∀ b, Foot KP ps b → ¬ RB KR qs b
  ce : ∀ p ∈ ps, openU c.W c.H us p.1 = false → p.2.2 = []
theorem RsAt.rb_lt {w : World} {K : Rk} {cs : Array Value} {vc : Value} {qs : List Pile} {ls : List Int} (h : RsAt w K cs vc qs ls) : ∀ b, RB K qs b → b < w.heap.size := by
  rintro b (e | e | e | ⟨i, q, a, n, c, hq, hv, e⟩)
  · rw [e]; exact h.slt
  · rw [e]; exact h.lr
  · rw [e]; exact h.llt
  · obtain ⟨a', cap, h1, _, _, _, h5, _⟩ := h.pl i q hq
    rw [hv] at h1
    injection h1 with q1 _ _
    rw [← e]
    exact (h5 a q1.symm).2.2.2.2
section
variable {KP : Sk} {KR : Rk} {c : Conf} {us : List Int} {cs : Array Value} {vc : Value} {ps qs ps' qs' : List Pile} {ls ls' : List Int} {w w' : World}
theorem Both.go (h : Both KP KR c us cs vc ps qs ls w) (b : Below w.heap.size w w') : Both KP KR c us cs vc ps qs ls w' :=
  { h with st := h.st.go b, rs := h.rs.go b }
/- The chapter's stacks under a call of the program's. -/
theorem Both.left (h : Both KP KR c us cs vc ps qs ls w) (T : Turn KP ps ps' w w') : RsAt w' KR cs vc qs ls ∧ ∀ b, Foot KP ps' b → ¬ RB KR qs b :=
  ⟨h.rs.same T.size fun b hb hr => T.keep b hb fun hf => h.dj b hf hr, fun b hf hr => (T.foot b hf).elim (fun q => h.dj b q hr) (fun q => by have := h.rs.rb_lt b hr; omega)⟩
/- The program's stacks under a call of the chapter's. -/
theorem Both.right (hs : StAt KP c us ps ls w) (hr : RsAt w KR cs vc qs ls') (far : KP.b1 ≤ KR.B) (dj : ∀ b, Foot KP ps b → ¬ RB KR qs b) (T : RTurn KR qs qs' w w') : StAt KP c us ps ls w' ∧ ∀ b, Foot KP ps b → ¬ RB KR qs' b :=
  ⟨hs.same T.size fun b hb => T.keep b (hb.elim (fun q => Nat.lt_of_lt_of_le q hs.big) (fun q => hs.foot_lt b q)) (fun e => hb.elim (fun q => by have := hr.br; omega) (fun q => dj b q (Or.inr (Or.inl e)))) (fun e => hb.elim (fun q => by have := hr.bl; omega) (fun q => dj b q (Or.inr (Or.inr (Or.inl e))))),
    fun b hf hq => (T.foot b hq).elim (fun q => dj b hf q) (fun q => by have := hs.foot_lt b hf; omega)⟩
end
end Go.Proofs.Ytabbdclpjghdbaa.Stk
