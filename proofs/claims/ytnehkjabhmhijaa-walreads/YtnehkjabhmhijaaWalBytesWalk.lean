/-
  WalBytes: any bytes in a file: what its records say, up to the first place where none stands; the rest is cut off, for certain.
-/
import Derived.Test.YtnehkjabhmhijaaWalSaid
namespace Go.Proofs.Ytnehkjabhmhijaa.Wal
set_option linter.unusedVariables false
set_option linter.unusedSimpArgs false
open Go Go.RowKit Go.Shelf Go.Proofs
open Go.Proofs.Ytnehkjabhmhijaa.Disk (Row getD_in ret_int add_add DiskIs Kept St now setSt owns_row owns_same wpList_append_bytes)

set_option maxRecDepth 100000 in
set_option maxHeartbeats 1000000 in
theorem refRecords_nil (w : World) : Calls Try.prog 8 #[.slice none 0 0] w fun e w' => ∃ v, e = .returned (.tuple #[v, .int .i64 (stop 0 [] : Nat)]) ∧ Recs w.heap.size [] [] v w' ∧ Below w.heap.size w w' := by
  have hrec : Recs w.heap.size [] [] (.slice none 0 0) w := ⟨[], World.ownsRow_nil _ _ _ _, rfl, rfl, fun p hp => by cases hp⟩
  go_enter Try.func8, Try.ntmps8
  go_wp2
  go_loopw [4, 5] (fun v i wr => v = .slice none 0 0 ∧ i = .int .i64 0 ∧ wr = w) (fun _ _ _ => 0)
  case atStart => exact ⟨rfl, rfl, rfl⟩
  case round =>
    obtain ⟨rfl, rfl, hw⟩ := hrel
    rw [hw]
    go_wp2
    refine bodyPost_ret (results_tmp2 rfl _ _ _) rfl ?_
    exact ⟨_, rfl, hrec, Below.refl _ _⟩
theorem refRecords_all (a : Option Addr) (len cap : Nat) (zs : List Int) (ns : List Nat) (w : World) (hr : Row w a len zs) (hd : Done zs ns) (h0 : a = none → len = 0 ∧ cap = 0) (hlc : len ≤ cap) (hcb : cap ≤ 9223372036854775807) (hlen : len ≤ 100000) :
    Calls Try.prog 8 #[.slice a len cap] w fun e w' => ∃ v, e = .returned (.tuple #[v, .int .i64 (stop 0 ns : Nat)]) ∧ Recs w.heap.size zs ns v w' ∧ Below w.heap.size w w' := by
  cases a with
  | some x => exact refRecords_any x len cap zs ns w hr hd hlc hcb hlen
  | none =>
    obtain ⟨rfl, rfl⟩ := h0 rfl
    obtain rfl : zs = [] := List.eq_nil_of_length_eq_zero hr.len
    obtain rfl : ns = [] := done_one hd ⟨trivial, rfl⟩
    exact refRecords_nil w
theorem app_one (bs : List Int) (h : bs.length ≤ 16777216) : Disk.appErr σ0 1 bs.length = 0 ∧ Disk.appSt σ0 1 bs = logSt 1 [] bs := by
  have e : Disk.appErr σ0 1 bs.length = 0 := by
    unfold Disk.appErr
    rw [Disk.isFile_yes (.inr rfl), if_pos rfl]
    show (if 16777216 < (now σ0 1).length + bs.length then (2 : Int) else 0) = 0
    have : (now σ0 1).length = 0 := rfl
    rw [if_neg (by omega)]
  refine ⟨e, ?_⟩
  unfold Disk.appSt
  rw [e, if_pos rfl]
  rfl
theorem openSt_now' (σ : St) (i e : Nat) (he : e ≤ (now σ i).length) : now (openSt σ i e) i = (now σ i).take e := by
  unfold openSt
  split
  · rw [now_sync]
  · rw [List.take_of_length_le (by omega)]
theorem openSt_sure (σ : St) (i e : Nat) (he : e < (now σ i).length) : (openSt σ i e i).2.length = 0 := by
  unfold openSt
  rw [if_pos he, setSt_at]
  rfl

theorem Recs.keep {B : Nat} {zs : List Int} {ms : List Nat} {v : Value} {w w' : World} (h : Recs B zs ms v w) (hk : ∀ k, B ≤ k → k < w.heap.size → w'.heap[k]? = w.heap[k]?) : Recs B zs ms v w' := by
  obtain ⟨ps, ho, h1, h2, hf⟩ := h.ex
  have key : ∀ {e : TypeId} {size : Nat} {u : Value} {n : Nat} {xs : List Value}, w.ownsRow B e size u n xs → w'.ownsRow B e size u n xs := fun {e size u n xs} hu => owns_same hu (fun k hkk => by
    rcases hu.2 with ⟨e', _⟩ | ⟨g, cap, cur, e', hb, hg, _⟩
    · rw [e'] at hkk; cases hkk
    · rw [e'] at hkk; cases hkk; exact hk g hb (Array.getElem?_eq_some_iff.1 hg).1)
  exact ⟨ps, key ho, h1, h2, fun p hp => ⟨key (hf p hp).own, (hf p hp).small⟩⟩
theorem read_step {W w : World} {own : Owns} {D : Nat} {σ : St} {m : Nat} (h : Live W w own D σ m) (hm : m < 4194304) (i : Nat) (hi : i < 2) (zs : List Int) (n : Nat) (hz : now σ i = zs) (hn : zs.length = n) :
    Calls Try.prog 16 #[.pointer (Option.some ⟨D, 0, none⟩), .int .i64 i] w fun e w' => ∃ v, e = .returned v ∧ ∃ a' cap', v = .slice a' n cap' ∧ Row w' a' n zs ∧ Below w.heap.size w w' :=
  (read_live h hm i hi zs n hz hn).mono fun e w' ⟨a', cap', he, _, hr, _, hb⟩ => ⟨_, he, a', cap', rfl, hr, hb⟩

end Go.Proofs.Ytnehkjabhmhijaa.Wal
