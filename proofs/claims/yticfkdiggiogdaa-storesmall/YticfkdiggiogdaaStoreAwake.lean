/-
  The first sentence of each law of package skeplaw06: an entry is appended once. And ints that are handed in.
-/
import Derived.Test.YticfkdiggiogdaaStoreNew
import Derived.Lib.SlBytesConst
namespace Go.Proofs.Yticfkdiggiogdaa.Store
set_option linter.unusedVariables false
set_option linter.unusedSimpArgs false
open Go Go.RowKit Go.Shelf Go.Proofs Go.ChangeShapes Go.WideShapes Go.ChangeAt
open Go.Proofs.Yticfkdiggiogdaa.Disk (Row getD_in ret_int add_add DiskIs Kept St now setSt owns_row owns_same)
open Go.Proofs.Yticfkdiggiogdaa.Wal (start_held take_held call_held read_held done_held Owns Fr Live Free LogIs cell_block rec setSt_at setSt_two appSt now_app openSt σ0)
open Go.Proofs.Yticfkdiggiogdaa.Codec (num I64 Made Mine Bytes)

theorem const_rows (w : World) (zs : List Int) (cs : Array Value) (t : TypeId) (fr : Nat × Nat) (n : Nat) (hn : zs.length = n) (hs : Bytes zs) (hcs : cs = (zs.map (Value.int .u8)).toArray) : Codec.Row (w.alloc (.cells cs t fr)) (Option.some ⟨w.heap.size, 0, none⟩) n zs := by
  subst hn hcs
  refine ⟨rfl, hs, fun i hi => ⟨_, rfl, ?_⟩⟩
  have e : (⟨w.heap.size, 0, none⟩ : Addr).add i = ⟨w.heap.size, i, none⟩ := by unfold Addr.add; simp; try omega
  rw [e, Codec.cell_new]
  simp [hi]
theorem append_next {W w : World} {own : Owns} {D S : Nat} {L : Nat → Nat} {σ : St} {m c : Nat} {g f n : Int} (h : StoreIs W w own D S L σ m c g f n) (k : Int) (hk : k = n + 1) (hm : m < 4194304) (a : Option Addr) (l cap : Nat) (zs : List Int) (hr : Codec.Row w a l zs) (h0 : a = none → cap = 0) (n0 : 0 ≤ n) (n1 : n < 9223372036854775807) (hl : l ≤ 60000) (hb : (now σ c).length ≤ 16000000) :
    Calls Try.prog 22 #[.pointer (Option.some ⟨S, 0, none⟩), .int .i64 k, .slice a l cap] w fun e w' => e = .returned (.int .i64 0) ∧ ∃ own', StoreIs W w' own' D S L (appSt σ c (rec (num k ++ zs))) (m + 1) c g f k ∧ SFr S own own' w w' := by
  subst hk
  have l1 := Codec.num_len (n + 1)
  have l2 := hr.len
  exact append_ok h hm a l cap zs hr h0 (by omega) n0 n1 (by rw [List.length_append]; omega) (by rw [List.length_append]; omega)
theorem began_now : now (beganSt σ0) 0 = rec firstHead := by
  unfold beganSt layTo now
  rw [setSt_at]
  rfl
theorem began_other : beganSt σ0 1 = ([], []) := rfl
theorem began_length : (now (beganSt σ0) 0).length = 10 := by rw [began_now, Wal.rec_length, firstHead_length]
theorem app_length (σ : St) (i : Nat) (x : List Int) : (now (appSt σ i (rec x)) i).length = (now σ i).length + (8 + x.length) := by rw [now_app, List.length_append, Wal.rec_length]
theorem dsize_any {W w : World} {own : Owns} {D : Nat} {σ : St} {m : Nat} (h : Live W w own D σ m) (i : Nat) (hi : i < 2) (n : Nat) (hn : (now σ i).length = n) :
    Calls Try.prog 33 #[.pointer (Option.some ⟨D, 0, none⟩), .int .i64 i] w fun e w' => e = .returned (.int .i64 n) ∧ w' = w := Wal.size_live h i hi n hn

set_option maxRecDepth 100000 in
set_option maxHeartbeats 8000000 in
theorem awake_any (w : World) : Calls Try.prog 12 #[] w fun e w' => e = .returned (.bool true) ∧ Below w.heap.size w w' := by
  have kc := fun (w : World) (C : Array Value) (n c : Nat) => Lib.run_convert_bytes_const (P := Try.prog) w 30 5 C n c Try.underlying30 Try.underlying5
  have l1 := began_length
  obtain ⟨σ1, hσ1⟩ : ∃ σ, beganSt σ0 = σ := ⟨_, rfl⟩
  have cO := fun (w1 : World) (own1 : Owns) (h1 : Live w w1 own1 w.heap.size σ0 0) => open_new h1 (by decide) rfl rfl
  rw [hσ1] at l1 cO
  have l2 := app_length σ1 0 (num 1 ++ [97])
  obtain ⟨σ2, hσ2⟩ : ∃ σ, appSt σ1 0 (rec (num 1 ++ [97])) = σ := ⟨_, rfl⟩
  rw [hσ2, l1] at l2
  have l2' : (now σ2 0).length = 20 := by rw [l2]; rfl
  go_enter Try.func12, Try.ntmps12
  go_wp2_with (first
    | (go_at_call 31; refine (size_any s4 (by decide)).mono ?_; rintro e w5 ⟨rfl, b5⟩; rw [l2'])
    | (go_at_call 33; refine (dsize_any s4.live 0 (by decide) 20 l2').mono ?_; rintro e u5 ⟨rfl, hu5⟩; rw [hu5])
    | (go_at_call 34; refine (from_any s4).mono ?_; rintro e u6 ⟨rfl, hu6⟩; rw [hu6])
    | (go_at_call 30; refine (last_any s4).mono ?_; rintro e u7 ⟨rfl, hu7⟩; rw [hu7])
    | (go_at_call 22; refine (append_state s4 3 none 0 0 (by decide) (by decide) (by decide)).mono ?_; rintro e u4 ⟨rfl, hu4⟩; rw [hu4])
    | (go_at_call 22; refine (append_old (s3.later ((Below.refl _ _).alloc (Nat.le_refl _) _)) 1 _ 1 1 (by decide) (by decide) (by decide)).mono ?_; rintro e w4 ⟨rfl, hw4⟩; have s4 := s3.later (show Below w3.heap.size w3 w4 from (by rw [hw4]; exact (Below.refl _ _).alloc (Nat.le_refl _) _)); clear hw4)
    | (go_at_call 22; refine (append_next (s2.later ((Below.refl _ _).alloc (Nat.le_refl _) _)) 1 (by decide) (by decide) _ 1 1 [97] (const_rows w2 [97] _ _ _ 1 rfl (by intro z hz; rw [List.mem_singleton.1 hz]; decide) rfl) (fun h => by cases h) (by decide) (by decide) (by decide) (by omega)).mono ?_; rintro e w3 ⟨rfl, own3, s3, f3⟩; rw [hσ2] at s3)
    | (go_at_call 21; refine (cO w1 own1 h1).mono ?_; rintro e w2 ⟨S, L, own2, rfl, s2, f2, n2⟩)
    | (go_at_call 10; refine (Wal.live_new w w (Below.refl _ _)).mono ?_; rintro e w1 ⟨rfl, ⟨own1, h1⟩, b1⟩))
  go_ret
  exact ⟨rfl, Codec.bcat s4.live.below b5 (Nat.le_refl _)⟩

/- Ints that are handed in. -/
structure IntsAt (w : World) (a : Option Addr) (n : Nat) (zs : List Int) : Prop where
  len : zs.length = n
  i64 : ∀ z ∈ zs, I64 z
  cell : ∀ i, i < n → ∃ x, a = Option.some x ∧ w.cell? (x.add i) = Option.some (.int .i64 (zs.getD i 0))
theorem IntsAt.after {w w' : World} {a : Option Addr} {n : Nat} {zs : List Int} (h : IntsAt w a n zs) (hb : Below w.heap.size w w') : IntsAt w' a n zs := by
  refine ⟨h.len, h.i64, fun i hi => ?_⟩
  obtain ⟨x, hx, hc⟩ := h.cell i hi
  exact ⟨x, hx, (hb.cell (World.block_lt_of_cell? w _ hc)).trans hc⟩
theorem ints_open {H : Type} {enc : TypeId × Value → H} {W : World} {fuel : Nat} {a : Option Addr} {len cap : Nat} {d : DataW H × List MemPlace} (h : DataW.trod enc Try.prog W 0 (fun _ => true) true fuel 56 [.slice a len cap] = Option.some d) :
    len ≤ 9223372036854775807 ∧ ∃ zs, IntsAt W a len zs := by
  rcases open_ints Try.underlying56 Try.underlying3 (by kernel_rfl) h with ⟨hcs, _⟩ | ⟨x, l, c, zs, hcs, _, hl, hm, hz, hd, hbc, hwz⟩
  · simp at hcs
    obtain ⟨rfl, rfl, rfl⟩ := hcs
    exact ⟨by omega, [], rfl, fun z hz => (by cases hz), fun i hi => (by omega)⟩
  · simp at hcs
    obtain ⟨rfl, rfl, rfl⟩ := hcs
    have hz' : zs.length = cap := by simpa using hz
    refine ⟨by unfold maxLen at hm; omega, zs.take len, by rw [List.length_take]; omega, fun z hzm => ?_, fun j hj => ⟨x, rfl, ?_⟩⟩
    · have := hwz z (List.mem_of_mem_take hzm)
      simp [Lit.wf, IntKind.min, IntKind.max, IntKind.bits, IntKind.signed] at this
      exact ⟨by omega, by omega⟩
    · rw [hbc j (by omega), getD_in zs j (by omega), getD_in _ j (by rw [List.length_take]; omega), List.getElem_take]
end Go.Proofs.Yticfkdiggiogdaa.Store
