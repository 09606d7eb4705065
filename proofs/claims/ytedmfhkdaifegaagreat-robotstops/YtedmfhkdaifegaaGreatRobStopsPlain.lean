/-
  A run that is stopped on its way, in plain words: it ends within it, in time.
-/
import Derived.Test.YtedmfhkdaifegaaGreatRobBackP
import Derived.Test.YtedmfhkdaifegaaGreatRkC
namespace Go.Proofs.YtedmfhkdaifegaaGreat.Rob
set_option linter.unusedVariables false
set_option linter.unusedSimpArgs false
open Go Go.RowKit Go.Shelf Go.Proofs Go.Proofs.YtedmfhkdaifegaaGreat.Lk Go.Proofs.YtedmfhkdaifegaaGreat.Plain

theorem stop_zero {u a v : Nat} {n t : Int} (ht : t < 1) : Kin.stopC u a v n t = 0 ∧ Kin.stopT u a v n t = 0 := by
  unfold Kin.stopC Kin.stopT
  rw [if_pos (Or.inl ht), if_pos (Or.inl ht)]
  exact ⟨rfl, rfl⟩
theorem stop_small {u a v : Nat} (ok : Kin.Ok u a v) {n t : Int} (h1 : 1 ≤ n) (h2 : n ≤ 16) : (Kin.stopC u a v n t : Int) ≤ n ∧ (Kin.stopT u a v n t : Int) ≤ n * u := by
  obtain ⟨N, rfl⟩ := Int.eq_ofNat_of_zero_le (show 0 ≤ n by omega)
  by_cases ht : t < 1
  · rw [(stop_zero ht).1, (stop_zero ht).2]
    refine ⟨by omega, ?_⟩
    rw [← Int.natCast_mul]
    omega
  · obtain ⟨T, rfl⟩ := Int.eq_ofNat_of_zero_le (show 0 ≤ t by omega)
    have hc := Kin.stopC_le (u := u) (a := a) (v := v) (n := N) (t := T) ok (by omega) (by omega) (by omega)
    refine ⟨by exact_mod_cast hc, ?_⟩
    have hu : Kin.stopC u a v N T * u ≤ N * u := Nat.mul_le_mul_right u hc
    by_cases hl : T < (Kin.spd u a v N).length
    · have e1 := Kin.stopT_mid (u := u) (a := a) (v := v) (n := N) (t := T) ok (by omega) (by omega) (by omega) hl
      have e2 := Kin.stopC_mid (u := u) (a := a) (v := v) (n := N) (t := T) ok (by omega) (by omega) (by omega) hl
      have hv := Kin.vel_bd (u := u) (n := N) ok (t := T) (by omega) (by omega)
      rw [e2] at hu
      rw [e1]
      unfold Kin.ticksS
      have hr := (Kin.runs_len (a := a) (v := v) (rise := 0) (left := Kin.cellsS u a (Kin.pos u a v N T) (Kin.vel u a v N T) * u - Kin.pos u a v N T) (s := Kin.vel u a v N T) ok.a1 ok.v1 (by omega)).1
      have : (Kin.runs a v 0 (Kin.cellsS u a (Kin.pos u a v N T) (Kin.vel u a v N T) * u - Kin.pos u a v N T) (Kin.vel u a v N T)).length ≤ N * u := by omega
      exact_mod_cast this
    · have e1 := Kin.stopT_end (u := u) (a := a) (v := v) (n := N) (t := T) ok (by omega) (by omega) (by omega) (by omega)
      rw [e1, ← Int.natCast_mul]
      omega
/- A run's own words. -/
theorem run_of {W H : Int} {us : List Int} {m : Mv} (h : Grid.legalU W H us (gm m) = true) (hk : m.kd = 1) : Grid.legalU W H us (Grid.runM ((m.fx, m.fy), m.fd) m.dr m.n) = true ∧ 0 ≤ m.dr ∧ m.dr ≤ 3 ∧ 1 ≤ m.n ∧ m.n ≤ 16 := by
  have hd := legal_dir h hk
  have hn : 1 ≤ m.n ∧ m.n ≤ 16 := by
    rcases legal_kind h with ⟨_, a, b⟩ | k | k
    · exact ⟨a, b⟩
    · omega
    · omega
  have h' := h
  unfold Grid.legalU at h'
  simp only [Bool.and_eq_true, decide_eq_true_eq] at h'
  have ht := h'.1.1.2
  change ((m.tx, m.ty), m.td) = (Grid.leadsP m.kd m.dr m.n ((m.fx, m.fy), m.fd)).1 at ht
  have hs : (Grid.leadsP m.kd m.dr m.n ((m.fx, m.fy), m.fd)).1 = Grid.shiftP ((m.fx, m.fy), m.fd) m.dr m.n := by
    unfold Grid.leadsP Grid.shiftR Grid.mayShift
    rw [if_pos hk, if_pos (by simp only [Bool.and_eq_true, decide_eq_true_eq]; omega)]
  rw [hs] at ht
  have e : gm m = (1, m.dr, m.n, ((m.fx, m.fy), m.fd), Grid.shiftP ((m.fx, m.fy), m.fd) m.dr m.n, m.ma, m.me) := by
    show (m.kd, m.dr, m.n, ((m.fx, m.fy), m.fd), ((m.tx, m.ty), m.td), m.ma, m.me) = _
    rw [hk, ht]
  rw [e] at h
  exact ⟨h, hd.1, hd.2, hn.1, hn.2⟩
theorem run_short {W H : Int} {us : List Int} {m : Mv} (hW : W ≤ 6) (hH : H ≤ 6) (h : Grid.legalU W H us (gm m) = true) (hk : m.kd = 1) : m.n ≤ 6 := by
  obtain ⟨hr, d0, d3, n1, n2⟩ := run_of h hk
  obtain ⟨hf, hall⟩ := (Grid.legal_run (by omega) (by omega) ⟨d0, d3⟩ ⟨n1, n2⟩).1 hr
  obtain ⟨⟨a1, a2, a3, a4⟩, _⟩ := Grid.fits_in hf
  obtain ⟨⟨b1, b2, b3, b4⟩, _⟩ := Grid.fits_in (hall m.n n1 (Int.le_refl _))
  simp only at a1 a2 a3 a4
  rw [Grid.shift_small (p := ((m.fx, m.fy), m.fd)) (by show -100 ≤ m.fx; omega) (by show m.fx ≤ 100; omega) (by show -100 ≤ m.fy; omega) (by show m.fy ≤ 100; omega) (by omega) n2] at b1 b2 b3 b4
  simp only [Grid.dx, Grid.dy] at b1 b2 b3 b4
  have : m.dr = 0 ∨ m.dr = 1 ∨ m.dr = 2 ∨ m.dr = 3 := by omega
  rcases this with e | e | e | e <;> simp [e] at b1 b2 b3 b4 <;> omega
/- A run of fewer cells is legal. -/
theorem run_fewer {W H : Int} {us : List Int} {m : Mv} (hW : W ≤ 16) (hH : H ≤ 16) (h : Grid.legalU W H us (gm m) = true) (hk : m.kd = 1) {k : Int} (k1 : 1 ≤ k) (k2 : k ≤ m.n) (x y a e : Int) (d : Bool) (hx : ((x, y), d) = Grid.shiftP ((m.fx, m.fy), m.fd) m.dr k) :
    Grid.legalU W H us (gm { m with n := k, tx := x, ty := y, td := d, ma := a, me := e }) = true := by
  obtain ⟨hr, d0, d3, n1, n2⟩ := run_of h hk
  obtain ⟨hf, hall⟩ := (Grid.legal_run hW hH ⟨d0, d3⟩ ⟨n1, n2⟩).1 hr
  have hl := (Grid.legal_run hW hH (us := us) (p := ((m.fx, m.fy), m.fd)) (d := m.dr) (n := k) ⟨d0, d3⟩ ⟨k1, by omega⟩).2 ⟨hf, fun j j1 j2 => hall j j1 (by omega)⟩
  have e2 : gm { m with n := k, tx := x, ty := y, td := d, ma := a, me := e } = (1, m.dr, k, ((m.fx, m.fy), m.fd), Grid.shiftP ((m.fx, m.fy), m.fd) m.dr k, a, e) := by
    show (m.kd, m.dr, k, ((m.fx, m.fy), m.fd), ((x, y), d), a, e) = _
    rw [hk, hx]
  rw [e2]
  exact hl
end Go.Proofs.YtedmfhkdaifegaaGreat.Rob
