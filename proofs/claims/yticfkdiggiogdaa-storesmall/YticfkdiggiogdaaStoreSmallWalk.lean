/-
  StoreSmall: behind a checkpoint the file is as small as its head, whatever stood there; what is too long is refused, and changes nothing.
-/
import Derived.Test.YticfkdiggiogdaaStoreHead
namespace Go.Proofs.Yticfkdiggiogdaa.Store
set_option linter.unusedVariables false
set_option linter.unusedSimpArgs false
open Go Go.RowKit Go.Shelf Go.Proofs
open Go.Proofs.Yticfkdiggiogdaa.Disk (Row getD_in ret_int add_add DiskIs Kept St now setSt owns_row owns_same)
open Go.Proofs.Yticfkdiggiogdaa.Wal (start_held take_held call_held read_held done_held Owns Fr Live Free LogIs cell_block setSt_at setSt_two appSt now_app openSt σ0 Piece Texts)
open Go.Proofs.Yticfkdiggiogdaa.Codec (num I64 Made Mine Bytes)

theorem now_set_other (σ : St) (i j : Nat) (p : List Int × List Disk.U) (h : j ≠ i) : now (setSt σ i p) j = now σ j := by unfold now setSt; rw [if_neg h]
/- A store that was checked t times, with k entries in all; its file has N bytes, the other none. -/
structure Small (W : World) (D S : Nat) (L : Nat → Nat) (t k : Nat) (f : Int) (N : Nat) (wr : World) : Prop where
  is : ∃ own σ m c, m ≤ 12 + k + 5 * t ∧ StoreIs W wr own D S L σ m c ((t : Int) + 1) f k ∧ (now σ c).length = N ∧ now σ (1 - c) = []
  le : N ≤ 4000 + 600 * k
theorem Small.below {W wr : World} {D S : Nat} {L : Nat → Nat} {t k : Nat} {f : Int} {N : Nat} (h : Small W D S L t k f N wr) : Below W.heap.size W wr := by
  obtain ⟨own, σ, m, c, _, s, _⟩ := h.is
  exact s.live.below
theorem Small.later {W wr w' : World} {D S : Nat} {L : Nat → Nat} {t k : Nat} {f : Int} {N : Nat} (h : Small W D S L t k f N wr) (hb : Below wr.heap.size wr w') : Small W D S L t k f N w' := by
  obtain ⟨own, σ, m, c, hm, s, hn, ho⟩ := h.is
  exact ⟨⟨own, σ, m, c, hm, s.later hb, hn, ho⟩, h.le⟩
theorem Small.next {W wr : World} {D S : Nat} {L : Nat → Nat} {t k : Nat} {f : Int} {N : Nat} (h : Small W D S L t k f N wr) (hk : k ≤ 100) (ht : t ≤ 10) (v : Int) (hv : v = (k : Int) + 1) (a : Option Addr) (l cap : Nat) (zs : List Int) (hr : Codec.Row wr a l zs) (h0 : a = none → cap = 0) (hl : l ≤ 500) :
    Calls Try.prog 22 #[.pointer (Option.some ⟨S, 0, none⟩), .int .i64 v, .slice a l cap] wr fun e w' => e = .returned (.int .i64 0) ∧ ∃ N', Small W D S L t (k + 1) f N' w' := by
  obtain ⟨own, σ, m, c, hm, s, hn, ho⟩ := h.is
  have hlen := h.le
  have l2 := hr.len
  have l1 := Codec.num_len v
  have hc := s.two
  refine (append_next s v hv (by omega) a l cap zs hr h0 (by omega) (by omega) (by omega) (by omega)).mono ?_
  rintro e w' ⟨rfl, own', s', f'⟩
  refine ⟨rfl, N + (8 + (num v ++ zs).length), ⟨own', appSt σ c (Wal.rec (num v ++ zs)), m + 1, c, by omega, ?_, ?_, ?_⟩, ?_⟩
  · have e : (((k + 1 : Nat)) : Int) = v := by omega
    rw [e]
    exact s'
  · rw [app_length, hn]
  · unfold appSt
    rw [now_set_other _ _ _ _ (by omega)]
    exact ho
  · rw [List.length_append]
    omega
theorem Small.size {W wr : World} {D S : Nat} {L : Nat → Nat} {t k : Nat} {f : Int} {N : Nat} (h : Small W D S L t k f N wr) (hk : k ≤ 100) (ht : t ≤ 10) : Calls Try.prog 31 #[.pointer (Option.some ⟨S, 0, none⟩)] wr fun e w' => e = .returned (.int .i64 N) ∧ Below wr.heap.size wr w' := by
  obtain ⟨own, σ, m, c, hm, s, hn, ho⟩ := h.is
  rw [← hn]
  exact size_any s (by omega)
theorem Small.last {W wr : World} {D S : Nat} {L : Nat → Nat} {t k : Nat} {f : Int} {N : Nat} (h : Small W D S L t k f N wr) : Calls Try.prog 30 #[.pointer (Option.some ⟨S, 0, none⟩)] wr fun e w' => e = .returned (.int .i64 k) ∧ w' = wr := by
  obtain ⟨own, σ, m, c, hm, s, hn, ho⟩ := h.is
  exact last_any s
theorem Small.from {W wr : World} {D S : Nat} {L : Nat → Nat} {t k : Nat} {f : Int} {N : Nat} (h : Small W D S L t k f N wr) : Calls Try.prog 34 #[.pointer (Option.some ⟨S, 0, none⟩)] wr fun e w' => e = .returned (.int .i64 f) ∧ w' = wr := by
  obtain ⟨own, σ, m, c, hm, s, hn, ho⟩ := h.is
  exact from_any s
theorem Small.sizes {W wr : World} {D S : Nat} {L : Nat → Nat} {t k : Nat} {f : Int} {N : Nat} (h : Small W D S L t k f N wr) : ∃ n0 n1 : Nat, n0 + n1 = N ∧
    Calls Try.prog 33 #[.pointer (Option.some ⟨D, 0, none⟩), .int .i64 0] wr (fun e w' => e = .returned (.int .i64 n0) ∧ w' = wr) ∧ Calls Try.prog 33 #[.pointer (Option.some ⟨D, 0, none⟩), .int .i64 1] wr (fun e w' => e = .returned (.int .i64 n1) ∧ w' = wr) := by
  obtain ⟨own, σ, m, c, hm, s, hn, ho⟩ := h.is
  have hc := s.two
  rcases (show c = 0 ∨ c = 1 by omega) with rfl | rfl
  · exact ⟨N, 0, by omega, dsize_any s.live 0 (by decide) N hn, dsize_any s.live 1 (by decide) 0 (by rw [show now σ 1 = [] from ho]; rfl)⟩
  · exact ⟨0, N, by omega, dsize_any s.live 0 (by decide) 0 (by rw [show now σ 0 = [] from ho]; rfl), dsize_any s.live 1 (by decide) N hn⟩
theorem head_length (g n : Int) (zs : List Int) : (headOf g n zs).length = (num g).length + (num n).length + zs.length := by unfold headOf; simp only [List.length_append]
theorem Small.bigCheck {W wr : World} {D S : Nat} {L : Nat → Nat} {t k : Nat} {f : Int} {N : Nat} (h : Small W D S L t k f N wr) (hk : k ≤ 100) (ht : t ≤ 10) (a : Option Addr) (l cap : Nat) (zs : List Int) (hr : Codec.Row wr a l zs) (h0 : a = none → cap = 0) (hl : l = 65536) :
    Calls Try.prog 25 #[.pointer (Option.some ⟨S, 0, none⟩), .slice a l cap] wr fun e w' => e = .returned (.int .i64 1) ∧ Below wr.heap.size wr w' := by
  obtain ⟨own, σ, m, c, hm, s, hn, ho⟩ := h.is
  have l2 := hr.len
  have p1 := Codec.num_pos ((t : Int) + 1 + 1)
  exact check_arg s (by omega) a l cap zs hr h0 (by omega) (by omega) (by omega) (by omega) (by omega) (by rw [head_length]; omega)
theorem Small.bigAppend {W wr : World} {D S : Nat} {L : Nat → Nat} {t k : Nat} {f : Int} {N : Nat} (h : Small W D S L t k f N wr) (hk : k ≤ 100) (ht : t ≤ 10) (a : Option Addr) (l cap : Nat) (zs : List Int) (hr : Codec.Row wr a l zs) (h0 : a = none → cap = 0) (hl : l = 65536) :
    Calls Try.prog 22 #[.pointer (Option.some ⟨S, 0, none⟩), .int .i64 ((k : Int) + 1), .slice a l cap] wr fun e w' => e = .returned (.int .i64 1) ∧ Below wr.heap.size wr w' := by
  obtain ⟨own, σ, m, c, hm, s, hn, ho⟩ := h.is
  have l2 := hr.len
  have p1 := Codec.num_pos ((k : Int) + 1)
  exact append_arg s (by omega) a l cap zs hr h0 (by omega) (by omega) (by omega) (by rw [List.length_append]; omega)
theorem Small.check {W wr u : World} {D S : Nat} {L : Nat → Nat} {t k : Nat} {f : Int} {N : Nat} (h : Small W D S L t k f N wr) (hb : Below wr.heap.size wr u) (hk : k ≤ 100) (ht : t ≤ 10) (a : Option Addr) (l cap : Nat) (zs : List Int) (hr : Codec.Row u a l zs) (h0 : a = none → cap = 0) (hl : l ≤ 3000)
    (ha : ∀ x, a = Option.some x → wr.heap.size ≤ x.block) :
    Calls Try.prog 25 #[.pointer (Option.some ⟨S, 0, none⟩), .slice a l cap] u fun e w' => e = .returned (.int .i64 0) ∧ Small W D S L (t + 1) k k (8 + (headOf ((t : Int) + 2) k zs).length) w' := by
  obtain ⟨own, σ, m, c, hm, s, hn, ho⟩ := h.is
  have l2 := hr.len
  have p1 := Codec.num_len ((t : Int) + 1 + 1)
  have p2 := Codec.num_len (k : Int)
  have hc := s.two
  have e2 : (t : Int) + 2 = (t : Int) + 1 + 1 := by omega
  have hno : ∀ x, a = Option.some x → l ≠ 0 → own x.block = none := fun x hx _ => by
    by_cases hn : own x.block = none
    · exact hn
    · have h1 := s.live.disk.old _ hn
      have h2 := ha x hx
      omega
  have hX : (headOf ((t : Int) + 1 + 1) k zs).length ≤ 3020 := by rw [head_length]; omega
  refine (check_ok (s.later hb) (by omega) a l cap zs hr h0 (by omega) (by omega) (by omega) (by omega) (by omega) (by omega) hno).mono ?_
  rintro e w' ⟨rfl, own', s', f'⟩
  rw [e2]
  refine ⟨rfl, ⟨own', checkedSt σ c (headOf ((t : Int) + 1 + 1) k zs), m + 5, 1 - c, by omega, ?_, ?_, ?_⟩, ?_⟩
  · have e : (((t + 1 : Nat)) : Int) + 1 = (t : Int) + 1 + 1 := by omega
    rw [e]
    exact s'
  · unfold checkedSt
    rw [now_set_other _ _ _ _ (by omega)]
    unfold now
    rw [setSt_at]
    show (Wal.rec _).length = _
    rw [Wal.rec_length]
  · have e : 1 - (1 - c) = c := by omega
    rw [e]
    unfold checkedSt now
    rw [setSt_at]
    rfl
  · omega
theorem small_start {W w2 : World} {D S : Nat} {L : Nat → Nat} {own2 : Owns} (s : StoreIs W w2 own2 D S L (beganSt σ0) 12 0 1 0 0) : Small W D S L 0 0 0 10 w2 :=
  ⟨⟨own2, beganSt σ0, 12, 0, by decide, s, began_length, rfl⟩, by decide⟩
theorem copied_new {w : World} {base : Nat} {a : Option Addr} {n cap : Nat} {xs : List Value} (h : w.ownsRow base 5 1 (.slice a n cap) n xs) : ∀ x, a = Option.some x → base ≤ x.block := by
  intro x hx
  rcases h.2 with ⟨e, _⟩ | ⟨g, cap', cur, e, hb, _⟩
  · rw [Value.slice.injEq] at e
    rw [hx] at e
    cases e.1
  · rw [Value.slice.injEq] at e
    rw [hx] at e
    cases e.1
    exact hb

set_option maxRecDepth 100000 in
set_option maxHeartbeats 8000000 in
theorem small_all (a0 a1 : Option Addr) (len0 cap0 len1 cap1 : Nat) (times : Int) (ps0 : List Piece) (zs1 : List Int) (w : World) (h0 : Texts w a0 len0 ps0) (hl0 : len0 ≤ 9223372036854775807) (h1 : Row w a1 len1 zs1) (n1 : a1 = none → len1 = 0 ∧ cap1 = 0) (hl1 : len1 ≤ 9223372036854775807) :
    Calls Try.prog 7 #[.slice a0 len0 cap0, .slice a1 len1 cap1, .int .i64 times] w fun e w' => e = .returned (.bool true) ∧ Below w.heap.size w w' := by
  have hlen0 := h0.len
  have hlz := h1.len
  have cW := awake_any
  by_cases hbig : 3000 < len1
  · have t9 : (3000 : Int) < (len1 : Int) := by omega
    go_enter Try.func7, Try.ntmps7
    go_wp2_with (first
      | (go_at_call 12; refine (cW w2).mono ?_; rintro e w3 ⟨rfl, b3⟩)
      | (go_at_call 21; refine (open_new g1 (by decide) rfl rfl).mono ?_; rintro e w2 ⟨S, L, own2, rfl, s2, f2, m2⟩)
      | (go_at_call 10; refine (Wal.live_new w w (Below.refl _ _)).mono ?_; rintro e w1 ⟨rfl, ⟨own1, g1⟩, b1⟩))
    go_ret
    exact ⟨rfl, Codec.bcat s2.live.below b3 (Nat.le_refl _)⟩
  · have t9 : ¬ ((3000 : Int) < (len1 : Int)) := by omega
    obtain ⟨i0, hi0, hz0, hz1, hz2⟩ := info_parts Disk.info5
    obtain ⟨NM, HNM⟩ : ∃ N : Nat, Hid (N = 65536) := ⟨_, rfl⟩
    obtain ⟨CM, hmk, hCM⟩ : ∃ CM : Array Value, (∀ u : World, (Instr.makeSlice 30 (.int .i64 65536) (.int .i64 65536)).run Try.prog u = .ok (.slice (Option.some ⟨u.heap.size, 0, none⟩) NM NM) (u.alloc (.cells CM 5))) ∧ Hid (CM = ((List.replicate NM (0 : Int)).map (Value.int .u8)).toArray) := by
      refine ⟨madeCells (Value.int .u8 0).cells (NM * 1), fun u => ?_, ?_⟩
      · have := run_make (P := Try.prog) u 30 5 i0 (.int .u8 0) Try.underlying30 hi0 hz0 .i64 .i64 65536 65536 (by decide) (by decide) (by rw [hz2]; decide) (by decide)
        rw [hz1] at this
        rw [HNM.out]
        exact this
      · show _ = _
        rw [Nat.mul_one, List.map_replicate]
        exact Array.toList_inj.1 (toList_madeCells_one _ _)
    have rM := fun u : World => const_rows u (List.replicate NM (0 : Int)) CM 5 (0, 0) NM List.length_replicate (fun z hz => by rw [List.mem_replicate] at hz; omega) hCM.out
    have bM : ∀ u : World, Below u.heap.size u (u.alloc (.cells CM 5)) := fun u => (Below.refl _ _).alloc (Nat.le_refl _) _
    have cP := fun u : World => Crc.place_any times 4 u (by decide) (by decide)
    have pb := Crc.place_bd times 4 (by decide)
    generalize Crc.place times 4 = pl at *
    obtain ⟨pn, rfl⟩ := Int.eq_ofNat_of_zero_le pb.1
    have pl4 : pn < 4 := by omega
    go_enter Try.func7, Try.ntmps7
    go_wp2_with (first
      | (go_at_call 21; refine (open_new g1 (by decide) rfl rfl).mono ?_; rintro e w2 ⟨S, L, own2, rfl, s2, f2, m2⟩)
      | (go_at_call 10; refine (Wal.live_new w w (Below.refl _ _)).mono ?_; rintro e w1 ⟨rfl, ⟨own1, g1⟩, b1⟩))
    have sm0 := small_start s2
    clear s2 f2 g1 b1
    generalize hD : w.heap.size = D at sm0 ⊢
    go_loopw [12, 13] (fun nn tt wr => ∃ (t k : Nat) (f : Int) (N : Nat), nn = .int .i64 k ∧ tt = .int .i64 t ∧ t ≤ 1 + pn ∧ k ≤ 10 * t ∧ Hid (Small w D S L t k f N wr)) (fun _ tt _ => 5 - (intOf tt).toNat)
    case atStart => exact ⟨0, 0, 0, 10, rfl, rfl, by omega, by omega, sm0⟩
    case round =>
      clear sm0
      obtain ⟨t, k, f, N, rfl, rfl, htp, hkt, hsm⟩ := hrel
      have hF := hsm.out
      clear hsm
      by_cases hlt : t < 1 + pn
      · have t0 : (t : Int) < 1 + (pn : Int) := by omega
        have t1 : (t : Int) ≤ 10 := by omega
        go_wp2_with (go_at_call 23; refine (cP wr).mono ?_; rintro e w9 ⟨rfl, hw9⟩; rw [hw9])
        go_loopw [12, 14] (fun nn jj u => ∃ (i N : Nat), nn = .int .i64 ((k + i : Nat) : Int) ∧ jj = .int .i64 i ∧ i ≤ 10 ∧ i ≤ len0 ∧ Hid (Small w D S L t (k + i) f N u)) (fun _ jj _ => 10 - (intOf jj).toNat)
        case atStart => exact ⟨0, N, rfl, rfl, by omega, by omega, hF⟩
        case round =>
          clear hF
          obtain ⟨i, N1, rfl, rfl, hi10, hil, hsm1⟩ := hrel
          have hF := hsm1.out
          clear hsm1
          by_cases hlt1 : i < len0 ∧ i < 10
          · have t2 : (i : Int) < (len0 : Int) := by omega
            have t3 : (i : Int) < 10 := by omega
            obtain ⟨x, rfl, hcA, hiA⟩ := (h0.after hF.below).get i (by omega)
            have cC := Disk.copy_any (ps0[i]).a (ps0[i]).zs.length (ps0[i]).cap (ps0[i]).zs wr hiA.row
            generalize ps0[i] = P at *
            have hnil := hiA.nil
            generalize hzz : P.zs = zz at *
            generalize hll : zz.length = ll at *
            generalize P.a = pa at *
            generalize P.cap = pc at *
            by_cases hbig1 : 500 < ll
            · have t4 : (500 : Int) < (ll : Int) := by omega
              go_wp2_with (go_at_call 12; refine (cW wr).mono ?_; rintro e w3 ⟨rfl, b3⟩)
              go_ret
              exact ⟨rfl, Codec.bcat hF.below b3 (Nat.le_refl _)⟩
            · have t4 : ¬ ((500 : Int) < (ll : Int)) := by omega
              have cC' := cC (by omega) hnil
              have hki : ((k + i : Nat) : Int) ≤ 100 := by omega
              have cN := fun (w5 : World) (b5 : Below wr.heap.size wr w5) (a5 : Option Addr) (c5 : Nat) (r5 : Row w5 a5 ll zz) (n5 : a5 = none → c5 = 0) => (hF.later b5).next (by omega) (by omega) (((k + i : Nat) : Int) + 1) rfl a5 ll c5 zz ⟨r5.len, r5.small, r5.cell⟩ n5 (by omega)
              generalize hKI : k + i = ki at *
              clear cC hiA
              go_wp2_with (first
                | (go_at_call 22; refine (cN w5 b5 a5 c5 r5 n5).mono ?_; rintro e w6 ⟨rfl, N6, f6⟩)
                | (go_at_call 17; refine cC'.mono ?_; rintro e w5 ⟨a5, c5, rfl, r5, o5, b5⟩; have n5 := fun h => ((Disk.owns_form o5).1 h).2))
              go_roundw
              case rel => exact ⟨i + 1, N6, by subst hKI; go_num, by go_num, by omega, by omega, by subst hKI; exact f6⟩
              case measure => simp [intOf]; omega
          · have hend : (¬ ((i : Int) < (len0 : Int))) ∨ ((i : Int) < (len0 : Int) ∧ ¬ ((i : Int) < 10)) := by omega
            have hki2 : k + i ≤ 100 := by omega
            have hkt2 : k + i ≤ 10 * (t + 1) := by omega
            generalize hKI : k + i = ki at *
            have hkiI : (ki : Int) ≤ 100 := by omega
            have lX : (headOf ((t : Int) + 2) ki zs1).length ≤ 3020 := by
              rw [head_length]
              have := Codec.num_len ((t : Int) + 2)
              have := Codec.num_len (ki : Int)
              omega
            have cH := fun (u : World) (bu : Below w.heap.size w u) => refHead_any u ((t : Int) + 2) ki a1 len1 cap1 zs1 (show Codec.Row u a1 len1 zs1 from ⟨h1.len, h1.small, (h1.after bu).cell⟩) (fun h => (n1 h).2) ⟨by omega, by omega⟩ ⟨by omega, by omega⟩ (by omega)
            have cK := fun (wz uz : World) (hz : Small w D S L t ki f N1 wz) (bz : Below wz.heap.size wz uz) (az : Option Addr) (cz : Nat) (rz : Row uz az len1 zs1) (nz : az = none → cz = 0) (haz : ∀ x, az = Option.some x → wz.heap.size ≤ x.block) => hz.check bz (by omega) (by omega) az len1 cz zs1 ⟨rz.len, rz.small, rz.cell⟩ nz (by omega) haz
            generalize hX : headOf ((t : Int) + 2) ki zs1 = X at *
            have lXi : (X.length : Int) ≤ 3020 := by omega
            have hnm : NM = 65536 := HNM.out
            have cB1 := fun (u : World) (hu : Small w D S L t ki f N1 u) => (hu.later (bM u)).bigCheck (by omega) (by omega) _ NM NM _ (rM u) (fun h => by cases h) hnm
            have cB2 := fun (u : World) (hu : Small w D S L t ki f N1 u) => (hu.later (bM u)).bigAppend (by omega) (by omega) _ NM NM _ (rM u) (fun h => by cases h) hnm
            clear hnm
            rcases hend with t2 | ⟨t2, t3⟩
            all_goals
              go_wp2_with (first
                | (go_at_call 30; refine (hG12.last).mono ?_; rintro e u1 ⟨rfl, hu1⟩; rw [hu1])
                | (go_at_call 34; refine (hG12.from).mono ?_; rintro e u2 ⟨rfl, hu2⟩; rw [hu2])
                | (go_at_call 31; refine (hG11.size (by omega) (by omega)).mono ?_; rintro e w12 ⟨rfl, b12⟩; have hG12 := hG11.later b12)
                | (go_at_call 33; refine z9.mono ?_; rintro e u3 ⟨rfl, hu3⟩; rw [hu3])
                | (go_at_call 33; refine z0.mono ?_; rintro e u4 ⟨rfl, hu4⟩; rw [hu4]; have z9 := z1)
                | (go_at_call 15; refine (Wal.refRecord_any a10 X.length d10 X w10 ⟨r10.len, r10.small, r10.cell⟩ (fun h => (z10 h).2) (by omega)).mono ?_; rintro e w11 ⟨a11, d11, rfl, r11, _, b11⟩; have hG11 := (hG9.later b10).later b11; obtain ⟨n0, n9, hsum, z0, z1⟩ := hG11.sizes; have hsumI : (n0 : Int) + (n9 : Int) = 8 + (X.length : Int) := (by omega))
                | (go_at_call 32; refine (cH w9 hG9.below).mono ?_; rintro e w10 ⟨v10, rfl, m10, b10, q10⟩; obtain ⟨a10, d10, rfl, r10, z10, l10, q11⟩ := m10.form)
                | (go_at_call 31; refine (hG8.size (by omega) (by omega)).mono ?_; rintro e w9 ⟨rfl, b9⟩; have hG9 := hG8.later b9)
                | (go_at_call 25; refine (cK w6 w7 hF6 b7 a7 c7 r7 n7 h7).mono ?_; rintro e w8 ⟨rfl, hG8⟩)
                | (go_at_call 17; refine (Disk.copy_any a1 len1 cap1 zs1 w6 (h1.after hF6.below) (by omega) n1).mono ?_; rintro e w7 ⟨a7, c7, rfl, r7, o7, b7⟩; have n7 := fun h => ((Disk.owns_form o7).1 h).2; have h7 := copied_new o7)
                | (go_at_call 22; refine (cB2 w5 hF5).mono ?_; rintro e w6 ⟨rfl, b6⟩; have hF6 := (hF5.later (bM w5)).later b6)
                | (go_at_call 31; refine (hF4.size (by omega) (by omega)).mono ?_; rintro e w5 ⟨rfl, b5⟩; have hF5 := hF4.later b5)
                | (go_at_call 25; refine (cB1 w3 hF3).mono ?_; rintro e w4 ⟨rfl, b4⟩; have hF4 := (hF3.later (bM w3)).later b4)
                | (go_at_call 31; refine (hF.size (by omega) (by omega)).mono ?_; rintro e w3 ⟨rfl, b3⟩; have hF3 := hF.later b3))
              go_roundw
              case rel => exact ⟨t + 1, ki, ki, _, rfl, by go_num, by omega, by omega, hG12⟩
              case measure => simp [intOf]; omega
      · have t0 : ¬ ((t : Int) < 1 + (pn : Int)) := by omega
        have t1 : (t : Int) ≤ 10 := by omega
        go_wp2_with (first
          | (go_at_call 12; refine (cW wr).mono ?_; rintro e w3 ⟨rfl, b3⟩)
          | (go_at_call 23; refine (cP wr).mono ?_; rintro e w9 ⟨rfl, hw9⟩; rw [hw9]))
        go_ret
        exact ⟨rfl, Codec.bcat hF.below b3 (Nat.le_refl _)⟩
end Go.Proofs.Yticfkdiggiogdaa.Store
