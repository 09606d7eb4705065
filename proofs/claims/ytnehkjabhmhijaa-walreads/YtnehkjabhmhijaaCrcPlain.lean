/-
  Sums of bytes, on numbers alone: the register behind a bit, a byte, a list of bytes; it is linear, nothing but 0 goes to 0, a turned bit turns the register by what that bit alone comes to.
-/
import Derived.Laws.BitsAllLaws
namespace Go.Proofs.Ytnehkjabhmhijaa.Crc
open Go

def poly : BitVec 32 := 0xedb88320#32
def sh (r : BitVec 32) : BitVec 32 := (r >>> 1) ^^^ (if r.getLsbD 0 then poly else 0#32)
def shs : Nat → BitVec 32 → BitVec 32
  | 0, r => r
  | n + 1, r => shs n (sh r)
def byte (r : BitVec 32) (c : Int) : BitVec 32 := shs 8 (r ^^^ BitVec.ofNat 32 c.toNat)
def run (r : BitVec 32) (l : List Int) : BitVec 32 := l.foldl byte r
def more (s : BitVec 32) (l : List Int) : BitVec 32 := ~~~ run (~~~ s) l
/- A register as the number that the program has. -/
def u32 (r : BitVec 32) : Int := (r.toNat : Int)

theorem u32_bd (r : BitVec 32) : 0 ≤ u32 r ∧ u32 r < 4294967296 := by unfold u32; have := r.isLt; omega
theorem u32_of (x : Int) (h0 : 0 ≤ x) (h1 : x < 4294967296) : ∃ r, x = u32 r := by
  refine ⟨BitVec.ofNat 32 x.toNat, ?_⟩
  unfold u32
  rw [BitVec.toNat_ofNat]
  omega
theorem u32_inj {a b : BitVec 32} (h : u32 a = u32 b) : a = b := by
  unfold u32 at h
  exact BitVec.eq_of_toNat_eq (by omega)
theorem ofInt_u32' (r : BitVec 32) : BitVec.ofInt 32 (u32 r) = r := by
  unfold u32
  rw [BitVec.ofInt_natCast, BitVec.ofNat_toNat, BitVec.setWidth_eq]

theorem xor_shuffle (a b c d : BitVec 32) : (a ^^^ b) ^^^ (c ^^^ d) = (a ^^^ c) ^^^ (b ^^^ d) := by
  rw [BitVec.xor_assoc, BitVec.xor_assoc, ← BitVec.xor_assoc b c d, BitVec.xor_comm b c, BitVec.xor_assoc c b d]
theorem xor_swap (a b c : BitVec 32) : (a ^^^ b) ^^^ c = (a ^^^ c) ^^^ b := by
  rw [BitVec.xor_assoc, BitVec.xor_comm b c, ← BitVec.xor_assoc]
theorem sh_xor (a b : BitVec 32) : sh (a ^^^ b) = sh a ^^^ sh b := by
  unfold sh
  rw [xor_shuffle, BitVec.ushiftRight_xor_distrib, BitVec.getLsbD_xor]
  congr 1
  cases a.getLsbD 0 <;> cases b.getLsbD 0 <;> simp
theorem sh_zero : sh 0#32 = 0#32 := by decide
theorem sh_top (r : BitVec 32) : (sh r).getLsbD 31 = r.getLsbD 0 := by
  unfold sh
  rw [BitVec.getLsbD_xor, BitVec.getLsbD_ushiftRight, BitVec.getLsbD_of_ge r (1 + 31) (by omega)]
  cases r.getLsbD 0 <;> decide
theorem sh_inj (r : BitVec 32) (h : sh r = 0#32) : r = 0#32 := by
  have h0 : r.getLsbD 0 = false := by rw [← sh_top, h]; simp
  unfold sh at h
  rw [h0] at h
  simp at h
  apply BitVec.eq_of_toNat_eq
  have h2 : (r >>> 1).toNat = 0 := by rw [h]; rfl
  rw [BitVec.toNat_ushiftRight, Nat.shiftRight_eq_div_pow] at h2
  have h3 : r.toNat.testBit 0 = false := h0
  rw [Nat.testBit_zero] at h3
  simp at h3 h2 ⊢
  omega
theorem shs_xor (n : Nat) : ∀ a b : BitVec 32, shs n (a ^^^ b) = shs n a ^^^ shs n b := by
  induction n with
  | zero => intro a b; rfl
  | succ n ih => intro a b; show shs n (sh (a ^^^ b)) = _; rw [sh_xor, ih]; rfl
theorem shs_zero (n : Nat) : shs n 0#32 = 0#32 := by
  induction n with
  | zero => rfl
  | succ n ih => show shs n (sh 0#32) = _; rw [sh_zero, ih]
theorem shs_inj (n : Nat) : ∀ r : BitVec 32, shs n r = 0#32 → r = 0#32 := by
  induction n with
  | zero => intro r h; exact h
  | succ n ih => intro r h; exact sh_inj r (ih _ h)
theorem shs_add (n m : Nat) : ∀ r, shs (n + m) r = shs m (shs n r) := by
  induction n with
  | zero => intro r; rw [Nat.zero_add]; rfl
  | succ n ih => intro r; rw [Nat.add_right_comm]; exact ih (sh r)
theorem shs_succ (n : Nat) (r : BitVec 32) : shs (n + 1) r = sh (shs n r) := shs_add n 1 r

theorem sh_two : ∀ k < 31, sh (BitVec.twoPow 32 (k + 1)) = BitVec.twoPow 32 k := by decide
theorem shs_two (k : Nat) (h : k < 32) : shs k (BitVec.twoPow 32 k) = 1#32 := by
  induction k with
  | zero => decide
  | succ k ih =>
    show shs k (sh (BitVec.twoPow 32 (k + 1))) = _
    rw [sh_two k (by omega)]
    exact ih (by omega)

theorem run_nil (r : BitVec 32) : run r [] = r := rfl
theorem run_cons (r : BitVec 32) (c : Int) (l : List Int) : run r (c :: l) = run (byte r c) l := rfl
theorem run_append (r : BitVec 32) (l m : List Int) : run r (l ++ m) = run (run r l) m := by unfold run; rw [List.foldl_append]
theorem run_snoc (r : BitVec 32) (l : List Int) (c : Int) : run r (l ++ [c]) = byte (run r l) c := by rw [run_append]; rfl
theorem byte_xor (x y : BitVec 32) (c : Int) : byte (x ^^^ y) c = byte x c ^^^ shs 8 y := by
  unfold byte
  rw [xor_swap, shs_xor]
theorem run_xor (l : List Int) : ∀ x y : BitVec 32, run (x ^^^ y) l = run x l ^^^ shs (8 * l.length) y := by
  induction l with
  | nil => intro x y; rfl
  | cons c l ih =>
    intro x y
    rw [run_cons, byte_xor, ih, run_cons, List.length_cons, show 8 * (l.length + 1) = 8 + 8 * l.length by omega, shs_add]

/- Parts. -/
theorem more_append (s : BitVec 32) (l m : List Int) : more (more s l) m = more s (l ++ m) := by
  unfold more
  rw [run_append, BitVec.not_not]
theorem more_nil (s : BitVec 32) : more s [] = s := by unfold more; rw [run_nil, BitVec.not_not]

/- One bit of one byte that is turned. -/
theorem byte_turn (r : BitVec 32) (c d : Int) (q : Nat) (hq : q < 8) (h : d.toNat = c.toNat ^^^ 2 ^ q) : byte r d = byte r c ^^^ shs (8 - q) 1#32 := by
  unfold byte
  rw [h, BitVec.ofNat_xor, ← BitVec.xor_assoc, shs_xor]
  congr 1
  have e : BitVec.ofNat 32 (2 ^ q) = BitVec.twoPow 32 q := by
    apply BitVec.eq_of_toNat_eq
    rw [BitVec.toNat_ofNat, BitVec.toNat_twoPow]
  rw [e]
  conv => lhs; rw [show 8 = q + (8 - q) by omega]
  rw [shs_add, shs_two q (by omega)]
theorem run_turn (r : BitVec 32) (l m : List Int) (c d : Int) (q : Nat) (hq : q < 8) (h : d.toNat = c.toNat ^^^ 2 ^ q) : run r (l ++ d :: m) = run r (l ++ c :: m) ^^^ shs (8 * (m.length + 1) - q) 1#32 := by
  rw [run_append, run_append, run_cons, run_cons, byte_turn _ c d q hq h, run_xor, ← shs_add]
  congr 2
  omega

/- Three lists of one length. -/
theorem byte_three (x y z : BitVec 32) (a b c d : Int) (h : d.toNat = (a.toNat ^^^ b.toNat) ^^^ c.toNat) : byte ((x ^^^ y) ^^^ z) d = (byte x a ^^^ byte y b) ^^^ byte z c := by
  unfold byte
  rw [h, BitVec.ofNat_xor, BitVec.ofNat_xor, xor_shuffle, xor_shuffle x y, shs_xor, shs_xor]

/- The program's round, as its words are: a bit behind the byte was added. -/
theorem bits_xor (a b : Int) : bits .xor .u32 a b = u32 (BitVec.ofInt 32 a ^^^ BitVec.ofInt 32 b) := by
  show IntKind.u32.wrap ((BitVec.ofInt 32 a ^^^ BitVec.ofInt 32 b).toNat : Int) = _
  unfold u32
  rw [IntKind.wrap_u32']
  have := (BitVec.ofInt 32 a ^^^ BitVec.ofInt 32 b).isLt
  omega
theorem bits_and (a b : Int) : bits .and .u32 a b = u32 (BitVec.ofInt 32 a &&& BitVec.ofInt 32 b) := by
  show IntKind.u32.wrap ((BitVec.ofInt 32 a &&& BitVec.ofInt 32 b).toNat : Int) = _
  unfold u32
  rw [IntKind.wrap_u32']
  have := (BitVec.ofInt 32 a &&& BitVec.ofInt 32 b).isLt
  omega
theorem u32_half (r : BitVec 32) : (u32 r) / (2 : Int) = u32 (r >>> (1 : Nat)) := by
  unfold u32
  rw [BitVec.toNat_ushiftRight, Nat.shiftRight_eq_div_pow]
  omega
theorem u32_odd (r : BitVec 32) : u32 r % 2 = if r.getLsbD 0 then 1 else 0 := by
  have h : r.getLsbD 0 = decide (r.toNat % 2 = 1) := by
    show r.toNat.testBit 0 = _
    rw [Nat.testBit_zero]
  unfold u32
  rw [h]
  by_cases g : r.toNat % 2 = 1
  · simp [g]; omega
  · simp [g]; omega
theorem one_and (r : BitVec 32) : r &&& 1#32 = if r.getLsbD 0 then 1#32 else 0#32 := by
  have h := u32_odd r
  unfold u32 at h
  apply BitVec.eq_of_toNat_eq
  rw [BitVec.toNat_and, show (1#32).toNat = 1 from rfl, Nat.and_one_is_mod]
  by_cases g : r.getLsbD 0
  · rw [if_pos g] at h ⊢; simp; omega
  · rw [if_neg g] at h ⊢; simp; omega
theorem round_word (r : BitVec 32) : bits .xor .u32 (u32 r / 2) (bits .and .u32 3988292384 (-bits .and .u32 (u32 r) 1 % 4294967296)) = u32 (sh r) := by
  rw [bits_xor, u32_half, ofInt_u32']
  unfold sh
  congr 2
  have e : bits .and .u32 (u32 r) 1 = if r.getLsbD 0 then 1 else 0 := by
    rw [bits_and, ofInt_u32', show BitVec.ofInt 32 1 = 1#32 from rfl, one_and]
    by_cases g : r.getLsbD 0
    · rw [if_pos g, if_pos g]; rfl
    · rw [if_neg g, if_neg g]; rfl
  rw [e, bits_and, ofInt_u32']
  by_cases g : r.getLsbD 0
  · rw [if_pos g, if_pos g]; decide
  · rw [if_neg g, if_neg g]; decide
theorem enter_word (r : BitVec 32) (c : Int) (c0 : 0 ≤ c) : bits .xor .u32 (u32 r) c = u32 (r ^^^ BitVec.ofNat 32 c.toNat) := by
  rw [bits_xor, ofInt_u32']
  congr 2
  obtain ⟨n, rfl⟩ := Int.eq_ofNat_of_zero_le c0
  rw [BitVec.ofInt_natCast]
  rfl
theorem not_word (r : BitVec 32) : bits .xor .u32 IntKind.u32.max (u32 r) = u32 (~~~ r) := by
  rw [bits_xor, ofInt_u32', show BitVec.ofInt 32 IntKind.u32.max = BitVec.allOnes 32 from by decide, BitVec.allOnes_xor]
theorem not_word' (r : BitVec 32) : bits .xor .u32 (u32 r) 4294967295 = u32 (~~~ r) := by
  rw [bits_xor, ofInt_u32', show BitVec.ofInt 32 4294967295 = BitVec.allOnes 32 from by decide, BitVec.xor_allOnes]

/- The chapter's own rounds: bit by bit. -/
def st (r : BitVec 32) (c : Nat) (k : Nat) : BitVec 32 := shs k (r ^^^ BitVec.ofNat 32 (c % 2 ^ k))
theorem st_zero (r : BitVec 32) (c : Nat) : st r c 0 = r := by
  unfold st
  rw [Nat.pow_zero, Nat.mod_one]
  show r ^^^ 0#32 = r
  rw [BitVec.xor_zero]
theorem st_last (r : BitVec 32) (c : Int) (c1 : c < 256) : st r c.toNat 8 = byte r c := by
  unfold st byte
  rw [Nat.mod_eq_of_lt (by omega)]
theorem st_even (r : BitVec 32) (c k : Nat) (h : c / 2 ^ k % 2 = 0) : st r c (k + 1) = sh (st r c k) := by
  have e : c % 2 ^ (k + 1) = c % 2 ^ k := by rw [Nat.mod_pow_succ, h]; omega
  unfold st
  rw [e, shs_succ]
theorem st_odd (r : BitVec 32) (c k : Nat) (hk : k < 8) (h : c / 2 ^ k % 2 = 1) : st r c (k + 1) = sh (st r c k) ^^^ poly := by
  unfold st
  have e : c % 2 ^ (k + 1) = (c % 2 ^ k) ^^^ 2 ^ k := by
    rw [Nat.mod_pow_succ, h, Nat.mul_one]
    have hl : c % 2 ^ k < 2 ^ k := Nat.mod_lt _ (Nat.two_pow_pos k)
    rw [Nat.xor_comm]
    have := Nat.two_pow_add_eq_or_of_lt hl 1
    rw [Nat.mul_one] at this
    rw [Nat.add_comm, this]
    apply Nat.eq_of_testBit_eq
    intro i
    rw [Nat.testBit_or, Nat.testBit_xor, Nat.testBit_two_pow]
    by_cases g : k = i
    · subst g
      rw [Nat.testBit_lt_two_pow hl]
      simp
    · simp [g]
  have e2 : BitVec.ofNat 32 (2 ^ k) = BitVec.twoPow 32 k := by
    apply BitVec.eq_of_toNat_eq
    rw [BitVec.toNat_ofNat, BitVec.toNat_twoPow]
  rw [e, BitVec.ofNat_xor, ← BitVec.xor_assoc, shs_xor, shs_succ, shs_succ k (BitVec.ofNat 32 (2 ^ k)), e2, shs_two k (by omega)]
  congr 1
theorem sh_odd (r : BitVec 32) (h : u32 r % 2 = 1) : sh r = (r >>> 1) ^^^ poly := by
  rw [u32_odd] at h
  unfold sh
  by_cases g : r.getLsbD 0
  · rw [if_pos g]
  · rw [if_neg g] at h; omega
theorem sh_even (r : BitVec 32) (h : u32 r % 2 = 0) : sh r = r >>> 1 := by
  rw [u32_odd] at h
  unfold sh
  by_cases g : r.getLsbD 0
  · rw [if_pos g] at h; omega
  · rw [if_neg g, BitVec.xor_zero]
theorem xor_twice (a b : BitVec 32) : (a ^^^ b) ^^^ b = a := by rw [BitVec.xor_assoc, BitVec.xor_self, BitVec.xor_zero]
theorem bit_of (c : Int) (c0 : 0 ≤ c) (k : Nat) : (c / 2 ^ k) % 2 = ((c.toNat / 2 ^ k % 2 : Nat) : Int) := by
  obtain ⟨n, rfl⟩ := Int.eq_ofNat_of_zero_le c0
  simp
theorem ref_one (r : BitVec 32) (c : Int) (k : Nat) (c0 : 0 ≤ c) (hk : k < 8) (h : u32 (st r c.toNat k) % 2 ≠ (c / 2 ^ k) % 2) : bits .xor .u32 (u32 (st r c.toNat k) / 2) 3988292384 = u32 (st r c.toNat (k + 1)) := by
  rw [bits_xor, u32_half, ofInt_u32', show BitVec.ofInt 32 3988292384 = poly from by decide]
  rw [bit_of c c0] at h
  have hb : c.toNat / 2 ^ k % 2 < 2 := Nat.mod_lt _ (by omega)
  rcases (show c.toNat / 2 ^ k % 2 = 0 ∨ c.toNat / 2 ^ k % 2 = 1 by omega) with g | g
  · rw [st_even r _ k g, sh_odd _ (by omega)]
  · rw [st_odd r _ k hk g, sh_even _ (by omega)]
theorem ref_none (r : BitVec 32) (c : Int) (k : Nat) (c0 : 0 ≤ c) (hk : k < 8) (h : u32 (st r c.toNat k) % 2 = (c / 2 ^ k) % 2) : u32 (st r c.toNat k) / 2 = u32 (st r c.toNat (k + 1)) := by
  rw [u32_half]
  rw [bit_of c c0] at h
  have hb : c.toNat / 2 ^ k % 2 < 2 := Nat.mod_lt _ (by omega)
  rcases (show c.toNat / 2 ^ k % 2 = 0 ∨ c.toNat / 2 ^ k % 2 = 1 by omega) with g | g
  · rw [st_even r _ k g, sh_even _ (by omega)]
  · rw [st_odd r _ k hk g, sh_odd _ (by omega), xor_twice]

/- Bytes, added bit by bit. -/
theorem u8_word (a b : Int) (h1 : 0 ≤ a) (h2 : a < 256) (h3 : 0 ≤ b) (h4 : b < 256) : (bits .xor .u8 a b).toNat = a.toNat ^^^ b.toNat ∧ 0 ≤ bits .xor .u8 a b ∧ bits .xor .u8 a b < 256 := by
  have hx : a.toNat ^^^ b.toNat < 2 ^ 8 := Nat.xor_lt_two_pow (by omega) (by omega)
  rw [u8_xor a b h1 h2 h3 h4]
  exact ⟨by omega, by omega, by omega⟩
theorem three_word (a b c : Int) (h1 : 0 ≤ a) (h2 : a < 256) (h3 : 0 ≤ b) (h4 : b < 256) (h5 : 0 ≤ c) (h6 : c < 256) :
    (bits .xor .u8 (bits .xor .u8 a b) c).toNat = (a.toNat ^^^ b.toNat) ^^^ c.toNat ∧ 0 ≤ bits .xor .u8 (bits .xor .u8 a b) c ∧ bits .xor .u8 (bits .xor .u8 a b) c < 256 := by
  obtain ⟨e, l, u⟩ := u8_word a b h1 h2 h3 h4
  obtain ⟨e', l', u'⟩ := u8_word (bits .xor .u8 a b) c l u h5 h6
  exact ⟨by rw [e', e], l', u'⟩
theorem run_three (x y z : BitVec 32) : ∀ (xa xb xc ys : List Int), xb.length = xa.length → xc.length = xa.length → ys.length = xa.length →
    (∀ j, j < xa.length → (ys.getD j 0).toNat = ((xa.getD j 0).toNat ^^^ (xb.getD j 0).toNat) ^^^ (xc.getD j 0).toNat) →
    run ((x ^^^ y) ^^^ z) ys = (run x xa ^^^ run y xb) ^^^ run z xc := by
  intro xa
  induction xa generalizing x y z with
  | nil =>
    intro xb xc ys h1 h2 h3 _
    rw [List.eq_nil_of_length_eq_zero h1, List.eq_nil_of_length_eq_zero h2, List.eq_nil_of_length_eq_zero h3]
    rfl
  | cons a xa ih =>
    intro xb xc ys h1 h2 h3 h
    cases xb with
    | nil => simp at h1
    | cons b xb =>
      cases xc with
      | nil => simp at h2
      | cons c xc =>
        cases ys with
        | nil => simp at h3
        | cons d ys =>
          rw [run_cons, run_cons, run_cons, run_cons, byte_three x y z a b c d (by simpa using h 0 (by simp))]
          refine ih _ _ _ xb xc ys (by simpa using h1) (by simpa using h2) (by simpa using h3) (fun j hj => ?_)
          simpa using h (j + 1) (by simpa using hj)
theorem more_three (xa xb xc ys : List Int) (h1 : xb.length = xa.length) (h2 : xc.length = xa.length) (h3 : ys.length = xa.length)
    (h : ∀ j, j < xa.length → (ys.getD j 0).toNat = ((xa.getD j 0).toNat ^^^ (xb.getD j 0).toNat) ^^^ (xc.getD j 0).toNat) :
    more 0#32 ys = (more 0#32 xa ^^^ more 0#32 xb) ^^^ more 0#32 xc := by
  unfold more
  have e : ~~~ 0#32 = ((~~~ 0#32) ^^^ (~~~ 0#32)) ^^^ (~~~ 0#32) := by decide
  conv => lhs; rw [e]
  rw [run_three _ _ _ xa xb xc ys h1 h2 h3 h]
  generalize run (~~~ 0#32) xa = p
  generalize run (~~~ 0#32) xb = q
  generalize run (~~~ 0#32) xc = r
  rw [← BitVec.xor_allOnes, ← BitVec.xor_allOnes, ← BitVec.xor_allOnes, ← BitVec.xor_allOnes, xor_shuffle p _ q _, BitVec.xor_self, BitVec.xor_zero, BitVec.xor_assoc (p ^^^ q) r]
theorem three_sum (p q r : BitVec 32) : bits .xor .u32 (bits .xor .u32 (u32 p) (u32 q)) (u32 r) = u32 ((p ^^^ q) ^^^ r) := by
  rw [bits_xor, bits_xor, ofInt_u32', ofInt_u32', ofInt_u32', ofInt_u32']

/- Bits in a row that are turned: what cs is to zs behind i bits of the row, from bit k on. -/
structure Turned (zs cs : List Int) (k i row : Nat) : Prop where
  len : cs.length = zs.length
  small : ∀ c ∈ cs, 0 ≤ c ∧ c < 256
  sum : run (~~~ 0#32) cs = run (~~~ 0#32) zs ^^^ shs (8 * zs.length - k) (BitVec.ofNat 32 (row % 2 ^ i))
  none : row % 2 ^ i = 0 → cs = zs
theorem Turned.start {zs : List Int} (h : ∀ c ∈ zs, 0 ≤ c ∧ c < 256) (k row : Nat) : Turned zs zs k 0 row :=
  ⟨rfl, h, by rw [Nat.pow_zero, Nat.mod_one, show BitVec.ofNat 32 0 = 0#32 from rfl, shs_zero, BitVec.xor_zero], fun _ => rfl⟩
theorem Turned.pass {zs cs : List Int} {k i row : Nat} (h : Turned zs cs k i row) (hb : row / 2 ^ i % 2 = 0) : Turned zs cs k (i + 1) row := by
  have e : row % 2 ^ (i + 1) = row % 2 ^ i := by rw [Nat.mod_pow_succ, hb]; omega
  exact ⟨h.len, h.small, by rw [e]; exact h.sum, by rw [e]; exact h.none⟩
theorem set_split (cs : List Int) (j : Nat) (d : Int) (hj : j < cs.length) : cs = cs.take j ++ cs[j] :: cs.drop (j + 1) ∧ cs.set j d = cs.take j ++ d :: cs.drop (j + 1) := by
  refine ⟨?_, ?_⟩
  · rw [← List.drop_eq_getElem_cons hj, List.take_append_drop]
  · rw [List.set_eq_take_append_cons_drop, if_pos hj]
theorem add_xor (row i : Nat) (hb : row / 2 ^ i % 2 = 1) : row % 2 ^ (i + 1) = (row % 2 ^ i) ^^^ 2 ^ i := by
  rw [Nat.mod_pow_succ, hb, Nat.mul_one]
  have hl : row % 2 ^ i < 2 ^ i := Nat.mod_lt _ (Nat.two_pow_pos i)
  rw [Nat.xor_comm]
  have := Nat.two_pow_add_eq_or_of_lt hl 1
  rw [Nat.mul_one] at this
  rw [Nat.add_comm, this]
  apply Nat.eq_of_testBit_eq
  intro m
  rw [Nat.testBit_or, Nat.testBit_xor, Nat.testBit_two_pow]
  by_cases g : i = m
  · subst g
    rw [Nat.testBit_lt_two_pow hl]
    simp
  · simp [g]
theorem Turned.turn {zs cs : List Int} {k i row j q : Nat} {d : Int} (h : Turned zs cs k i row) (hi : i < 32) (hb : row / 2 ^ i % 2 = 1) (he : k + i = 8 * j + q) (hq : q < 8) (hj : j < cs.length)
    (hd : d.toNat = (cs[j]).toNat ^^^ 2 ^ q) (d0 : 0 ≤ d) (d1 : d < 256) : Turned zs (cs.set j d) k (i + 1) row := by
  have hlen := h.len
  obtain ⟨s1, s2⟩ := set_split cs j d hj
  refine ⟨by rw [List.length_set, hlen], fun c hc => ?_, ?_, fun h0 => ?_⟩
  · rcases List.mem_or_eq_of_mem_set hc with g | g
    · exact h.small c g
    · rw [g]; exact ⟨d0, d1⟩
  · have e2 : BitVec.ofNat 32 (2 ^ i) = BitVec.twoPow 32 i := by
      apply BitVec.eq_of_toNat_eq
      rw [BitVec.toNat_ofNat, BitVec.toNat_twoPow]
    rw [add_xor row i hb, BitVec.ofNat_xor, shs_xor, ← BitVec.xor_assoc, ← h.sum, e2]
    have e3 : shs (8 * zs.length - k) (BitVec.twoPow 32 i) = shs (8 * ((cs.drop (j + 1)).length + 1) - q) 1#32 := by
      have : 8 * zs.length - k = i + (8 * ((cs.drop (j + 1)).length + 1) - q) := by rw [List.length_drop]; omega
      rw [this, shs_add, shs_two i hi]
    rw [e3, s2, run_turn _ _ _ cs[j] d q hq hd, ← s1]
  · exfalso
    rw [Nat.mod_pow_succ, hb] at h0
    have := Nat.two_pow_pos i
    omega
theorem split_bit (k i n : Nat) (h : k + i < 8 * n) : ∃ j q : Nat, k + i = 8 * j + q ∧ ((k : Int) + (i : Int)) / 8 = (j : Int) ∧ ((k : Int) + (i : Int)) % 8 = (q : Int) ∧ q < 8 ∧ j < n :=
  ⟨(k + i) / 8, (k + i) % 8, by omega, by omega, by omega, by omega, by omega⟩
theorem row_bit (row : BitVec 32) (i : Nat) : bits .and .u32 (u32 row / 2 ^ i) 1 = ((row.toNat / 2 ^ i % 2 : Nat) : Int) := by
  have e : u32 row / 2 ^ i = u32 (row >>> i) := by
    unfold u32
    rw [BitVec.toNat_ushiftRight, Nat.shiftRight_eq_div_pow]
    simp
  rw [e, bits_and, ofInt_u32', show BitVec.ofInt 32 1 = 1#32 from rfl]
  unfold u32
  rw [BitVec.toNat_and, show (1#32).toNat = 1 from rfl, Nat.and_one_is_mod, BitVec.toNat_ushiftRight, Nat.shiftRight_eq_div_pow]
theorem bit_on (row : BitVec 32) (i : Nat) (h : row.toNat / 2 ^ i % 2 = 1) : (bits .and .u32 (u32 row / 2 ^ i) 1 == 1) = true := by
  rw [row_bit, h]; rfl
theorem bit_off (row : BitVec 32) (i : Nat) (h : ¬ row.toNat / 2 ^ i % 2 = 1) : (bits .and .u32 (u32 row / 2 ^ i) 1 == 1) = false := by
  rw [row_bit, show row.toNat / 2 ^ i % 2 = 0 by omega]; rfl
theorem turn_step {zs cs : List Int} {k i row j q : Nat} (h : Turned zs cs k i row) (hi : i < 32) (hb : row / 2 ^ i % 2 = 1) (he : k + i = 8 * j + q) (hq : q < 8) (hj : j < cs.length) :
    ∃ v : Int, bits .xor .u8 cs[j] (2 ^ q % 256) = v ∧ Turned zs (cs.set j v) k (i + 1) row := by
  obtain ⟨c0, c1⟩ := h.small _ (List.getElem_mem hj)
  have hp : (2 : Int) ^ q = ((2 ^ q : Nat) : Int) := by simp
  have hp1 : 2 ^ q ≤ 2 ^ 7 := Nat.pow_le_pow_right (by omega) (by omega)
  have h0 : (0 : Int) ≤ 2 ^ q := by rw [hp]; exact Int.natCast_nonneg _
  have h1 : (2 : Int) ^ q < 256 := by rw [hp]; omega
  rw [Int.emod_eq_of_lt h0 h1]
  obtain ⟨e, l, u⟩ := u8_word cs[j] (2 ^ q) c0 c1 h0 h1
  exact ⟨_, rfl, h.turn hi hb he hq hj (by rw [e, hp, Int.toNat_natCast]) l u⟩
theorem Turned.told {zs cs : List Int} {k i row : Nat} (h : Turned zs cs k i row) (hi : i ≤ 32) : more 0#32 cs = more 0#32 zs ↔ cs = zs := by
  refine ⟨fun g => h.none ?_, fun g => by rw [g]⟩
  have g2 : run (~~~ 0#32) cs = run (~~~ 0#32) zs := by
    unfold more at g
    have := congrArg (fun x => ~~~ x) g
    simpa using this
  have hs := h.sum
  rw [g2] at hs
  have h3 : shs (8 * zs.length - k) (BitVec.ofNat 32 (row % 2 ^ i)) = 0#32 := by
    have := congrArg (fun x => run (~~~ 0#32) zs ^^^ x) hs
    simp only [BitVec.xor_self, ← BitVec.xor_assoc, BitVec.zero_xor] at this
    exact this.symm
  have h4 := congrArg BitVec.toNat (shs_inj _ _ h3)
  rw [BitVec.toNat_ofNat] at h4
  have h5 : row % 2 ^ i < 2 ^ i := Nat.mod_lt _ (Nat.two_pow_pos i)
  have h6 : 2 ^ i ≤ 2 ^ 32 := Nat.pow_le_pow_right (by omega) hi
  rw [Nat.mod_eq_of_lt (by omega)] at h4
  simpa using h4

end Go.Proofs.Ytnehkjabhmhijaa.Crc
