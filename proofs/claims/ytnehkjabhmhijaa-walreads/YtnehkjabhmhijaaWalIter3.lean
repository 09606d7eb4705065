/-
  What Records returns, for the function of the law WalReads: it tells it each record in the bytes, each in new memory, until it says no more.
-/
import Derived.Test.YtnehkjabhmhijaaWalRound
namespace Go.Proofs.Ytnehkjabhmhijaa.Wal
set_option linter.unusedVariables false
set_option linter.unusedSimpArgs false
open Go Go.RowKit Go.Shelf Go.Proofs
open Go.Proofs.Ytnehkjabhmhijaa.Disk (Row getD_in ret_int add_add DiskIs Kept St now setSt owns_row owns_same)

attribute [local go_sem] Oper.semAt_some

set_option maxRecDepth 100000 in
set_option maxHeartbeats 3000000 in
theorem iterR_any (caps : Array Value) (B0 : Nat) (x : Addr) (len cap : Nat) (zs : List Int) (ns : List Nat) (w : World) (hd : Done zs ns) (hlc : len ≤ cap) (hcb : cap ≤ 9223372036854775807) (hlen : len ≤ 140737488355328) (C : Nat → Prop)
    (a : Option Addr) (hx : ∀ y, a = Option.some y → y = x) (h00 : a = none → len = 0 ∧ cap = 0) (hB0 : w.cell? ⟨B0, 0, none⟩ = Option.some (.slice a len cap)) (hr : Row w a len zs) (hxb : x.block < w.heap.size) (hC : ∀ k, C k → k < w.heap.size ∧ k ≠ x.block)
    (J Jx : List (Rec zs) → World → Prop) (hJ : OwnFrom w.heap.size J) (hJx : OwnFrom w.heap.size Jx)
    (hy : ∀ pre (r : Rec zs) (V V' : World) (a' : Option Addr) (c' : Nat), J pre V → pre.length < ns.length → Turn C w V → Below V.heap.size V V' → Row V' a' r.1.2 (bytesAt zs r) → 
      Calls Try.prog 17 (#[.int .i64 r.1.1, .slice a' r.1.2 c'] ++ caps) V' fun e V'' => (e = .returned (.bool true) ∧ J (pre ++ [r]) V'' ∧ Turn C V' V'') ∨ (e = .returned (.bool false) ∧ Jx (pre ++ [r]) V'' ∧ Turn C V' V''))
    (h0 : J [] w) :
    CallsIn Fence.wide 9 Try.prog 28 #[.func (.func 17) #[] caps, .pointer (Option.some ⟨B0, 0, none⟩)] w fun e w' => (∃ v, e = .returned v) ∧ Turn C w w' ∧
      ((∃ ys : List (Rec zs), ys.map Subtype.val = places 0 ns ∧ J ys w') ∨ (∃ pre : List (Rec zs), (∃ ms, ms <+: ns ∧ pre.map Subtype.val = places 0 ms) ∧ Jx pre w')) := by
  have hl := hr.len
  refine callsIn_of_wp_marks Try.func28 rfl trivial ?_ rfl
  simp only [Try.ntmps28, List.size_toArray, List.length_cons, List.length_nil, Nat.reduceAdd, Nat.reduceSub, Array.replicate_succ, Array.replicate_zero, List.push_toArray, List.append_toArray, List.nil_append, List.cons_append]
  have hB1 := cell_more (.cells #[.func (.func 17) #[] caps] 41) hB0
  gi_wp2_with (refine ⟨trivial, ?_⟩; gi_at_call 22; refine (callsIn_wide.2 (records_any _ _ _ _)).mono ?_; rintro e w3 ⟨rfl, rfl⟩)
  obtain ⟨V0, hV⟩ : ∃ V, (w.alloc (.cells #[.func (.func 17) #[] caps] 41)).alloc (Obj.cells #[Value.slice a len cap] 22) = V := ⟨_, rfl⟩
  have hsz : V0.heap.size = w.heap.size + 1 + 1 := by rw [← hV]; simp
  have bY : Boxed V0 w.heap.size 41 (.func (.func 17) #[] caps) := by rw [← hV]; exact (Boxed.new w _ _).alloc _
  have bB : Boxed V0 (w.heap.size + 1) 22 (.slice a len cap) := by
    rw [← hV]
    have := Boxed.new (w.alloc (.cells #[.func (.func 17) #[] caps] 41)) 22 (.slice a len cap)
    rw [World.size_alloc] at this
    exact this
  have bV : Below w.heap.size w V0 := by rw [← hV]; exact ((Below.refl _ w).alloc (Nat.le_refl _) _).alloc (by simp) _
  have hJ0 : J [] V0 := hJ _ _ _ none h0 (grown_of_below bV) (by intro r e; cases e)
  have hJ' : OwnFrom V0.heap.size J := fun s X Y row h hg hr' => hJ s X Y row h hg (fun r e => ⟨by have := (hr' r e).1; omega, (hr' r e).2⟩)
  have hJx' : OwnFrom V0.heap.size Jx := fun s X Y row h hg hr' => hJx s X Y row h hg (fun r e => ⟨by have := (hr' r e).1; omega, (hr' r e).2⟩)
  try simp only [World.size_alloc]
  rw [hV]
  clear hV hB1
  refine wpIn_rangeFunc_ownG rfl (by omega) (gf := 34) (lb := #[.pointer (Option.some ⟨w.heap.size + 1, 0, none⟩)]) rfl trivial (enters_of Try.func34 (by kernel_rfl) rfl)
    (records_stops 8 (by omega) (w.heap.size + 1) a len cap zs ns hd hlc hcb h00 V0 bB.cell (hr.after bV) x hx (fun _ => by omega)) Kp.trans ?kb (Below.refl _ _) (fun _ => rfl)
    (fun pre V => J pre V ∧ Iter C w w.heap.size (w.heap.size + 1) (.func (.func 17) #[] caps) (.slice a len cap) V) (fun c pre V => c = .ret ∧ Jx pre V ∧ Turn C w V)
    (OwnFrom.and hJ' (iter_own (by omega))) (fun c => OwnFrom.and (ownFrom_pure _ (fun _ => c = .ret)) (OwnFrom.and hJx' (turn_own (by omega))))
    ⟨hJ0, Turn.below bV, bY, bB⟩
    (fun r => { tmps := #[.func (.func 17) #[] caps, .pointer (Option.some ⟨B0, 0, none⟩), .pointer (Option.some ⟨w.heap.size, 0, none⟩), .int .i64 r.1.1, .slice (Option.some (x.add (r.1.1 + 8))) r.1.2 (cap - (r.1.1 + 8)), .slice a len cap, .func (.func 34) #[] #[.pointer (Option.some ⟨w.heap.size + 1, 0, none⟩)], .int .i64 r.1.1, .slice (Option.some (x.add (r.1.1 + 8))) r.1.2 (cap - (r.1.1 + 8)), undef, undef, undef, undef, undef, undef], defers := [] }) ?assign ?body ?done ?stop
  case kb =>
    intro W' l o o' hl' ho _ _
    have hlt := (Array.getElem?_eq_some_iff.1 ho).1
    have hg := grownBy_putObj' W' l o'
    exact ⟨hg.block _ (by omega) (fun e => by cases e; omega), hg.block _ (by omega) (fun e => by cases e; omega)⟩
  case assign =>
    intro l r V' K hK
    simp only [encs]
    gi_wp2
    exact hK
  case body =>
    rintro l pre r V ⟨hj, hit⟩ hlt
    have hmx : Try.prog.follows .mixedOrders = true := by kernel_rfl
    have hrV : Row V a len zs := Row.block hr (fun y hy' => by obtain rfl := hx y hy'; exact hit.turn.block _ hxb (fun hc => (hC _ hc).2 rfl))
    have hrp := bytesRow hx hrV r
    have hkl : r.1.2 ≤ 65536 := r.2.2.1
    have hcY := hit.ybox.cell
    have cC := fun (v' : World) (hb : Below V.heap.size V v') => Disk.clone_any (Option.some (x.add (r.1.1 + 8))) r.1.2 (cap - (r.1.1 + 8)) (bytesAt zs r) v' (hrp.after hb) (by omega) (fun h => by cases h)
    have cY := fun (V' : World) (a' : Option Addr) (c' : Nat) (hb : Below V.heap.size V V') (hw : Row V' a' r.1.2 (bytesAt zs r)) => hy pre r V V' a' c' hj hlt hit.turn hb hw
    have hsmall := hrp.small
    have fin : ∀ V' V'', Below V.heap.size V V' → Turn C V' V'' → KeepsFrom V0.heap.size V V'' ∧ Kp x.block (w.heap.size + 1) V V'' ∧ Iter C w w.heap.size (w.heap.size + 1) (.func (.func 17) #[] caps) (.slice a len cap) V'' := by
      intro V' V'' hb ht
      have same : ∀ k, k < V.heap.size → ¬ C k → V''.heap[k]? = V.heap[k]? := fun k hk hn => (ht.block k (Nat.lt_of_lt_of_le hk hb.size) hn).trans (hb.block k hk)
      have hVw := hit.turn.size
      refine ⟨⟨Nat.le_trans hb.size ht.size, fun k o hk ho _ => ?_⟩, ⟨same _ (by omega) (fun hc => (hC _ hc).2 rfl), same _ hit.bbox.lt (fun hc => by have := (hC _ hc).1; omega)⟩, ⟨hit.turn.trans ((Turn.below hb).trans ht), ?_, ?_⟩⟩
      · rw [same k (Array.getElem?_eq_some_iff.1 ho).1 (fun hc => by have := (hC _ hc).1; omega)]
        exact ho
      · exact (same _ hit.ybox.lt (fun hc => by have := (hC _ hc).1; omega)).trans hit.ybox
      · exact (same _ hit.bbox.lt (fun hc => by have := (hC _ hc).1; omega)).trans hit.bbox
    clear hrp hrV
    generalize x.add (r.1.1 + 8) = y at *
    generalize cap - (r.1.1 + 8) = cy at *
    gi_wp2
    refine wpIn_region_any (by assumption) ?_
    change wpAnyIn _ _ _ _ _ _ _ _ _ (World.drew _)
    refine wpAnyIn_ready (rs := [0, 1, 2]) (by kernel_rfl) (by simp) ?_
    refine AllReadyIn.cons rfl (fun K hK => ?_) (AllReadyIn.cons rfl (fun K hK => ?_) (AllReadyIn.cons rfl (fun K hK => ?_) AllReadyIn.nil))
    · go_simp
      refine hK _ _ ?_
      clear hK K
      refine wpAnyIn_ready (rs := [1, 2]) (by kernel_rfl) (by simp) ?_
      refine AllReadyIn.cons rfl (fun K hK => ?_) (AllReadyIn.cons rfl (fun K hK => ?_) AllReadyIn.nil)
      · go_simp
        refine hK _ _ ?_
        clear hK K
        refine wpAnyIn_ready (rs := [2]) (by kernel_rfl) (by simp) ?_
        refine AllReadyIn.cons rfl (fun K hK => ?_) AllReadyIn.nil
        · go_simp
          refine hK _ _ ?_
          clear hK K
          refine wpAnyIn_ready (rs := [3]) (by kernel_rfl) (by simp) ?_
          refine AllReadyIn.cons rfl (fun K hK => ?_) AllReadyIn.nil
          · go_simp
            gi_wp2_with (refine ⟨trivial, ?_⟩; gi_at_call 23; refine (CallsIn.inRound l (callsIn_wide.2 (cC _ (Below.refl _ _).drew))).mono ?_; rintro e w5 ⟨a5, c5, rfl, o5, b5⟩; have hcY5 := (b5.cell (p := ⟨w.heap.size, 0, none⟩) hit.ybox.lt).trans hcY; have b5' : Below V.heap.size V w5 := ((Below.refl _ V).drew).trans b5; have r5 := (owns_row o5 hsmall).1)
            refine wpAnyIn_ready (rs := [4]) (by kernel_rfl) (by simp) ?_
            refine AllReadyIn.cons rfl (fun K hK => ?_) AllReadyIn.nil
            go_simp
            refine ⟨trivial, ?_⟩
            refine (CallsIn.inRound l (callsIn_wide.2 (cY w5 a5 c5 b5' r5))).mono ?_
            rintro e w6 (⟨rfl, hj6, ht6⟩ | ⟨rfl, hj6, ht6⟩)
            · go_simp
              refine hK _ _ ?_
              clear hK K
              refine wpAnyIn_ready (rs := [5]) (by kernel_rfl) (by simp) ?_
              refine AllReadyIn.cons rfl (fun K hK => ?_) AllReadyIn.nil
              go_simp
              refine hK _ _ ?_
              clear hK K
              refine wpAnyIn_done (by kernel_rfl) ?_ _
              gi_wp2
              obtain ⟨f1, f2, f3⟩ := fin w5 w6 b5' ht6
              exact ⟨f1, f2, hj6, f3⟩
            · go_simp
              refine hK _ _ ?_
              clear hK K
              refine wpAnyIn_ready (rs := [5]) (by kernel_rfl) (by simp) ?_
              refine AllReadyIn.cons rfl (fun K hK => ?_) AllReadyIn.nil
              go_simp
              refine hK _ _ ?_
              clear hK K
              refine wpAnyIn_done (by kernel_rfl) ?_ _
              gi_wp2
              obtain ⟨f1, f2, f3⟩ := fin w5 w6 b5' ht6
              exact ⟨f1, rfl, hj6, f3.turn⟩
      · go_simp
        refine hK _ _ ?_
        clear hK K
        refine wpAnyIn_ready (rs := [1, 3]) (by kernel_rfl) (by simp) ?_
        refine AllReadyIn.cons rfl (fun K hK => ?_) (AllReadyIn.cons rfl (fun K hK => ?_) AllReadyIn.nil)
        · go_simp
          refine hK _ _ ?_
          clear hK K
          refine wpAnyIn_ready (rs := [3]) (by kernel_rfl) (by simp) ?_
          refine AllReadyIn.cons rfl (fun K hK => ?_) AllReadyIn.nil
          · go_simp
            gi_wp2_with (refine ⟨trivial, ?_⟩; gi_at_call 23; refine (CallsIn.inRound l (callsIn_wide.2 (cC _ (Below.refl _ _).drew))).mono ?_; rintro e w5 ⟨a5, c5, rfl, o5, b5⟩; have hcY5 := (b5.cell (p := ⟨w.heap.size, 0, none⟩) hit.ybox.lt).trans hcY; have b5' : Below V.heap.size V w5 := ((Below.refl _ V).drew).trans b5; have r5 := (owns_row o5 hsmall).1)
            refine wpAnyIn_ready (rs := [4]) (by kernel_rfl) (by simp) ?_
            refine AllReadyIn.cons rfl (fun K hK => ?_) AllReadyIn.nil
            go_simp
            refine ⟨trivial, ?_⟩
            refine (CallsIn.inRound l (callsIn_wide.2 (cY w5 a5 c5 b5' r5))).mono ?_
            rintro e w6 (⟨rfl, hj6, ht6⟩ | ⟨rfl, hj6, ht6⟩)
            · go_simp
              refine hK _ _ ?_
              clear hK K
              refine wpAnyIn_ready (rs := [5]) (by kernel_rfl) (by simp) ?_
              refine AllReadyIn.cons rfl (fun K hK => ?_) AllReadyIn.nil
              go_simp
              refine hK _ _ ?_
              clear hK K
              refine wpAnyIn_done (by kernel_rfl) ?_ _
              gi_wp2
              obtain ⟨f1, f2, f3⟩ := fin w5 w6 b5' ht6
              exact ⟨f1, f2, hj6, f3⟩
            · go_simp
              refine hK _ _ ?_
              clear hK K
              refine wpAnyIn_ready (rs := [5]) (by kernel_rfl) (by simp) ?_
              refine AllReadyIn.cons rfl (fun K hK => ?_) AllReadyIn.nil
              go_simp
              refine hK _ _ ?_
              clear hK K
              refine wpAnyIn_done (by kernel_rfl) ?_ _
              gi_wp2
              obtain ⟨f1, f2, f3⟩ := fin w5 w6 b5' ht6
              exact ⟨f1, rfl, hj6, f3.turn⟩
        · go_simp
          gi_wp2_with (refine ⟨trivial, ?_⟩; gi_at_call 23; refine (CallsIn.inRound l (callsIn_wide.2 (cC _ (Below.refl _ _).drew))).mono ?_; rintro e w5 ⟨a5, c5, rfl, o5, b5⟩; have hcY5 := (b5.cell (p := ⟨w.heap.size, 0, none⟩) hit.ybox.lt).trans hcY; have b5' : Below V.heap.size V w5 := ((Below.refl _ V).drew).trans b5; have r5 := (owns_row o5 hsmall).1)
          refine wpAnyIn_ready (rs := [1]) (by kernel_rfl) (by simp) ?_
          refine AllReadyIn.cons rfl (fun K hK => ?_) AllReadyIn.nil
          · go_simp
            refine hK _ _ ?_
            clear hK K
            refine wpAnyIn_ready (rs := [4]) (by kernel_rfl) (by simp) ?_
            refine AllReadyIn.cons rfl (fun K hK => ?_) AllReadyIn.nil
            go_simp
            refine ⟨trivial, ?_⟩
            refine (CallsIn.inRound l (callsIn_wide.2 (cY w5 a5 c5 b5' r5))).mono ?_
            rintro e w6 (⟨rfl, hj6, ht6⟩ | ⟨rfl, hj6, ht6⟩)
            · go_simp
              refine hK _ _ ?_
              clear hK K
              refine wpAnyIn_ready (rs := [5]) (by kernel_rfl) (by simp) ?_
              refine AllReadyIn.cons rfl (fun K hK => ?_) AllReadyIn.nil
              go_simp
              refine hK _ _ ?_
              clear hK K
              refine wpAnyIn_done (by kernel_rfl) ?_ _
              gi_wp2
              obtain ⟨f1, f2, f3⟩ := fin w5 w6 b5' ht6
              exact ⟨f1, f2, hj6, f3⟩
            · go_simp
              refine hK _ _ ?_
              clear hK K
              refine wpAnyIn_ready (rs := [5]) (by kernel_rfl) (by simp) ?_
              refine AllReadyIn.cons rfl (fun K hK => ?_) AllReadyIn.nil
              go_simp
              refine hK _ _ ?_
              clear hK K
              refine wpAnyIn_done (by kernel_rfl) ?_ _
              gi_wp2
              obtain ⟨f1, f2, f3⟩ := fin w5 w6 b5' ht6
              exact ⟨f1, rfl, hj6, f3.turn⟩
    · go_simp
      refine hK _ _ ?_
      clear hK K
      refine wpAnyIn_ready (rs := [0, 2]) (by kernel_rfl) (by simp) ?_
      refine AllReadyIn.cons rfl (fun K hK => ?_) (AllReadyIn.cons rfl (fun K hK => ?_) AllReadyIn.nil)
      · go_simp
        refine hK _ _ ?_
        clear hK K
        refine wpAnyIn_ready (rs := [2]) (by kernel_rfl) (by simp) ?_
        refine AllReadyIn.cons rfl (fun K hK => ?_) AllReadyIn.nil
        · go_simp
          refine hK _ _ ?_
          clear hK K
          refine wpAnyIn_ready (rs := [3]) (by kernel_rfl) (by simp) ?_
          refine AllReadyIn.cons rfl (fun K hK => ?_) AllReadyIn.nil
          · go_simp
            gi_wp2_with (refine ⟨trivial, ?_⟩; gi_at_call 23; refine (CallsIn.inRound l (callsIn_wide.2 (cC _ (Below.refl _ _).drew))).mono ?_; rintro e w5 ⟨a5, c5, rfl, o5, b5⟩; have hcY5 := (b5.cell (p := ⟨w.heap.size, 0, none⟩) hit.ybox.lt).trans hcY; have b5' : Below V.heap.size V w5 := ((Below.refl _ V).drew).trans b5; have r5 := (owns_row o5 hsmall).1)
            refine wpAnyIn_ready (rs := [4]) (by kernel_rfl) (by simp) ?_
            refine AllReadyIn.cons rfl (fun K hK => ?_) AllReadyIn.nil
            go_simp
            refine ⟨trivial, ?_⟩
            refine (CallsIn.inRound l (callsIn_wide.2 (cY w5 a5 c5 b5' r5))).mono ?_
            rintro e w6 (⟨rfl, hj6, ht6⟩ | ⟨rfl, hj6, ht6⟩)
            · go_simp
              refine hK _ _ ?_
              clear hK K
              refine wpAnyIn_ready (rs := [5]) (by kernel_rfl) (by simp) ?_
              refine AllReadyIn.cons rfl (fun K hK => ?_) AllReadyIn.nil
              go_simp
              refine hK _ _ ?_
              clear hK K
              refine wpAnyIn_done (by kernel_rfl) ?_ _
              gi_wp2
              obtain ⟨f1, f2, f3⟩ := fin w5 w6 b5' ht6
              exact ⟨f1, f2, hj6, f3⟩
            · go_simp
              refine hK _ _ ?_
              clear hK K
              refine wpAnyIn_ready (rs := [5]) (by kernel_rfl) (by simp) ?_
              refine AllReadyIn.cons rfl (fun K hK => ?_) AllReadyIn.nil
              go_simp
              refine hK _ _ ?_
              clear hK K
              refine wpAnyIn_done (by kernel_rfl) ?_ _
              gi_wp2
              obtain ⟨f1, f2, f3⟩ := fin w5 w6 b5' ht6
              exact ⟨f1, rfl, hj6, f3.turn⟩
      · go_simp
        refine hK _ _ ?_
        clear hK K
        refine wpAnyIn_ready (rs := [0, 3]) (by kernel_rfl) (by simp) ?_
        refine AllReadyIn.cons rfl (fun K hK => ?_) (AllReadyIn.cons rfl (fun K hK => ?_) AllReadyIn.nil)
        · go_simp
          refine hK _ _ ?_
          clear hK K
          refine wpAnyIn_ready (rs := [3]) (by kernel_rfl) (by simp) ?_
          refine AllReadyIn.cons rfl (fun K hK => ?_) AllReadyIn.nil
          · go_simp
            gi_wp2_with (refine ⟨trivial, ?_⟩; gi_at_call 23; refine (CallsIn.inRound l (callsIn_wide.2 (cC _ (Below.refl _ _).drew))).mono ?_; rintro e w5 ⟨a5, c5, rfl, o5, b5⟩; have hcY5 := (b5.cell (p := ⟨w.heap.size, 0, none⟩) hit.ybox.lt).trans hcY; have b5' : Below V.heap.size V w5 := ((Below.refl _ V).drew).trans b5; have r5 := (owns_row o5 hsmall).1)
            refine wpAnyIn_ready (rs := [4]) (by kernel_rfl) (by simp) ?_
            refine AllReadyIn.cons rfl (fun K hK => ?_) AllReadyIn.nil
            go_simp
            refine ⟨trivial, ?_⟩
            refine (CallsIn.inRound l (callsIn_wide.2 (cY w5 a5 c5 b5' r5))).mono ?_
            rintro e w6 (⟨rfl, hj6, ht6⟩ | ⟨rfl, hj6, ht6⟩)
            · go_simp
              refine hK _ _ ?_
              clear hK K
              refine wpAnyIn_ready (rs := [5]) (by kernel_rfl) (by simp) ?_
              refine AllReadyIn.cons rfl (fun K hK => ?_) AllReadyIn.nil
              go_simp
              refine hK _ _ ?_
              clear hK K
              refine wpAnyIn_done (by kernel_rfl) ?_ _
              gi_wp2
              obtain ⟨f1, f2, f3⟩ := fin w5 w6 b5' ht6
              exact ⟨f1, f2, hj6, f3⟩
            · go_simp
              refine hK _ _ ?_
              clear hK K
              refine wpAnyIn_ready (rs := [5]) (by kernel_rfl) (by simp) ?_
              refine AllReadyIn.cons rfl (fun K hK => ?_) AllReadyIn.nil
              go_simp
              refine hK _ _ ?_
              clear hK K
              refine wpAnyIn_done (by kernel_rfl) ?_ _
              gi_wp2
              obtain ⟨f1, f2, f3⟩ := fin w5 w6 b5' ht6
              exact ⟨f1, rfl, hj6, f3.turn⟩
        · go_simp
          gi_wp2_with (refine ⟨trivial, ?_⟩; gi_at_call 23; refine (CallsIn.inRound l (callsIn_wide.2 (cC _ (Below.refl _ _).drew))).mono ?_; rintro e w5 ⟨a5, c5, rfl, o5, b5⟩; have hcY5 := (b5.cell (p := ⟨w.heap.size, 0, none⟩) hit.ybox.lt).trans hcY; have b5' : Below V.heap.size V w5 := ((Below.refl _ V).drew).trans b5; have r5 := (owns_row o5 hsmall).1)
          refine wpAnyIn_ready (rs := [0]) (by kernel_rfl) (by simp) ?_
          refine AllReadyIn.cons rfl (fun K hK => ?_) AllReadyIn.nil
          · go_simp
            refine hK _ _ ?_
            clear hK K
            refine wpAnyIn_ready (rs := [4]) (by kernel_rfl) (by simp) ?_
            refine AllReadyIn.cons rfl (fun K hK => ?_) AllReadyIn.nil
            go_simp
            refine ⟨trivial, ?_⟩
            refine (CallsIn.inRound l (callsIn_wide.2 (cY w5 a5 c5 b5' r5))).mono ?_
            rintro e w6 (⟨rfl, hj6, ht6⟩ | ⟨rfl, hj6, ht6⟩)
            · go_simp
              refine hK _ _ ?_
              clear hK K
              refine wpAnyIn_ready (rs := [5]) (by kernel_rfl) (by simp) ?_
              refine AllReadyIn.cons rfl (fun K hK => ?_) AllReadyIn.nil
              go_simp
              refine hK _ _ ?_
              clear hK K
              refine wpAnyIn_done (by kernel_rfl) ?_ _
              gi_wp2
              obtain ⟨f1, f2, f3⟩ := fin w5 w6 b5' ht6
              exact ⟨f1, f2, hj6, f3⟩
            · go_simp
              refine hK _ _ ?_
              clear hK K
              refine wpAnyIn_ready (rs := [5]) (by kernel_rfl) (by simp) ?_
              refine AllReadyIn.cons rfl (fun K hK => ?_) AllReadyIn.nil
              go_simp
              refine hK _ _ ?_
              clear hK K
              refine wpAnyIn_done (by kernel_rfl) ?_ _
              gi_wp2
              obtain ⟨f1, f2, f3⟩ := fin w5 w6 b5' ht6
              exact ⟨f1, rfl, hj6, f3.turn⟩
    · go_simp
      refine hK _ _ ?_
      clear hK K
      refine wpAnyIn_ready (rs := [0, 1, 3]) (by kernel_rfl) (by simp) ?_
      refine AllReadyIn.cons rfl (fun K hK => ?_) (AllReadyIn.cons rfl (fun K hK => ?_) (AllReadyIn.cons rfl (fun K hK => ?_) AllReadyIn.nil))
      · go_simp
        refine hK _ _ ?_
        clear hK K
        refine wpAnyIn_ready (rs := [1, 3]) (by kernel_rfl) (by simp) ?_
        refine AllReadyIn.cons rfl (fun K hK => ?_) (AllReadyIn.cons rfl (fun K hK => ?_) AllReadyIn.nil)
        · go_simp
          refine hK _ _ ?_
          clear hK K
          refine wpAnyIn_ready (rs := [3]) (by kernel_rfl) (by simp) ?_
          refine AllReadyIn.cons rfl (fun K hK => ?_) AllReadyIn.nil
          · go_simp
            gi_wp2_with (refine ⟨trivial, ?_⟩; gi_at_call 23; refine (CallsIn.inRound l (callsIn_wide.2 (cC _ (Below.refl _ _).drew))).mono ?_; rintro e w5 ⟨a5, c5, rfl, o5, b5⟩; have hcY5 := (b5.cell (p := ⟨w.heap.size, 0, none⟩) hit.ybox.lt).trans hcY; have b5' : Below V.heap.size V w5 := ((Below.refl _ V).drew).trans b5; have r5 := (owns_row o5 hsmall).1)
            refine wpAnyIn_ready (rs := [4]) (by kernel_rfl) (by simp) ?_
            refine AllReadyIn.cons rfl (fun K hK => ?_) AllReadyIn.nil
            go_simp
            refine ⟨trivial, ?_⟩
            refine (CallsIn.inRound l (callsIn_wide.2 (cY w5 a5 c5 b5' r5))).mono ?_
            rintro e w6 (⟨rfl, hj6, ht6⟩ | ⟨rfl, hj6, ht6⟩)
            · go_simp
              refine hK _ _ ?_
              clear hK K
              refine wpAnyIn_ready (rs := [5]) (by kernel_rfl) (by simp) ?_
              refine AllReadyIn.cons rfl (fun K hK => ?_) AllReadyIn.nil
              go_simp
              refine hK _ _ ?_
              clear hK K
              refine wpAnyIn_done (by kernel_rfl) ?_ _
              gi_wp2
              obtain ⟨f1, f2, f3⟩ := fin w5 w6 b5' ht6
              exact ⟨f1, f2, hj6, f3⟩
            · go_simp
              refine hK _ _ ?_
              clear hK K
              refine wpAnyIn_ready (rs := [5]) (by kernel_rfl) (by simp) ?_
              refine AllReadyIn.cons rfl (fun K hK => ?_) AllReadyIn.nil
              go_simp
              refine hK _ _ ?_
              clear hK K
              refine wpAnyIn_done (by kernel_rfl) ?_ _
              gi_wp2
              obtain ⟨f1, f2, f3⟩ := fin w5 w6 b5' ht6
              exact ⟨f1, rfl, hj6, f3.turn⟩
        · go_simp
          gi_wp2_with (refine ⟨trivial, ?_⟩; gi_at_call 23; refine (CallsIn.inRound l (callsIn_wide.2 (cC _ (Below.refl _ _).drew))).mono ?_; rintro e w5 ⟨a5, c5, rfl, o5, b5⟩; have hcY5 := (b5.cell (p := ⟨w.heap.size, 0, none⟩) hit.ybox.lt).trans hcY; have b5' : Below V.heap.size V w5 := ((Below.refl _ V).drew).trans b5; have r5 := (owns_row o5 hsmall).1)
          refine wpAnyIn_ready (rs := [1]) (by kernel_rfl) (by simp) ?_
          refine AllReadyIn.cons rfl (fun K hK => ?_) AllReadyIn.nil
          · go_simp
            refine hK _ _ ?_
            clear hK K
            refine wpAnyIn_ready (rs := [4]) (by kernel_rfl) (by simp) ?_
            refine AllReadyIn.cons rfl (fun K hK => ?_) AllReadyIn.nil
            go_simp
            refine ⟨trivial, ?_⟩
            refine (CallsIn.inRound l (callsIn_wide.2 (cY w5 a5 c5 b5' r5))).mono ?_
            rintro e w6 (⟨rfl, hj6, ht6⟩ | ⟨rfl, hj6, ht6⟩)
            · go_simp
              refine hK _ _ ?_
              clear hK K
              refine wpAnyIn_ready (rs := [5]) (by kernel_rfl) (by simp) ?_
              refine AllReadyIn.cons rfl (fun K hK => ?_) AllReadyIn.nil
              go_simp
              refine hK _ _ ?_
              clear hK K
              refine wpAnyIn_done (by kernel_rfl) ?_ _
              gi_wp2
              obtain ⟨f1, f2, f3⟩ := fin w5 w6 b5' ht6
              exact ⟨f1, f2, hj6, f3⟩
            · go_simp
              refine hK _ _ ?_
              clear hK K
              refine wpAnyIn_ready (rs := [5]) (by kernel_rfl) (by simp) ?_
              refine AllReadyIn.cons rfl (fun K hK => ?_) AllReadyIn.nil
              go_simp
              refine hK _ _ ?_
              clear hK K
              refine wpAnyIn_done (by kernel_rfl) ?_ _
              gi_wp2
              obtain ⟨f1, f2, f3⟩ := fin w5 w6 b5' ht6
              exact ⟨f1, rfl, hj6, f3.turn⟩
      · go_simp
        refine hK _ _ ?_
        clear hK K
        refine wpAnyIn_ready (rs := [0, 3]) (by kernel_rfl) (by simp) ?_
        refine AllReadyIn.cons rfl (fun K hK => ?_) (AllReadyIn.cons rfl (fun K hK => ?_) AllReadyIn.nil)
        · go_simp
          refine hK _ _ ?_
          clear hK K
          refine wpAnyIn_ready (rs := [3]) (by kernel_rfl) (by simp) ?_
          refine AllReadyIn.cons rfl (fun K hK => ?_) AllReadyIn.nil
          · go_simp
            gi_wp2_with (refine ⟨trivial, ?_⟩; gi_at_call 23; refine (CallsIn.inRound l (callsIn_wide.2 (cC _ (Below.refl _ _).drew))).mono ?_; rintro e w5 ⟨a5, c5, rfl, o5, b5⟩; have hcY5 := (b5.cell (p := ⟨w.heap.size, 0, none⟩) hit.ybox.lt).trans hcY; have b5' : Below V.heap.size V w5 := ((Below.refl _ V).drew).trans b5; have r5 := (owns_row o5 hsmall).1)
            refine wpAnyIn_ready (rs := [4]) (by kernel_rfl) (by simp) ?_
            refine AllReadyIn.cons rfl (fun K hK => ?_) AllReadyIn.nil
            go_simp
            refine ⟨trivial, ?_⟩
            refine (CallsIn.inRound l (callsIn_wide.2 (cY w5 a5 c5 b5' r5))).mono ?_
            rintro e w6 (⟨rfl, hj6, ht6⟩ | ⟨rfl, hj6, ht6⟩)
            · go_simp
              refine hK _ _ ?_
              clear hK K
              refine wpAnyIn_ready (rs := [5]) (by kernel_rfl) (by simp) ?_
              refine AllReadyIn.cons rfl (fun K hK => ?_) AllReadyIn.nil
              go_simp
              refine hK _ _ ?_
              clear hK K
              refine wpAnyIn_done (by kernel_rfl) ?_ _
              gi_wp2
              obtain ⟨f1, f2, f3⟩ := fin w5 w6 b5' ht6
              exact ⟨f1, f2, hj6, f3⟩
            · go_simp
              refine hK _ _ ?_
              clear hK K
              refine wpAnyIn_ready (rs := [5]) (by kernel_rfl) (by simp) ?_
              refine AllReadyIn.cons rfl (fun K hK => ?_) AllReadyIn.nil
              go_simp
              refine hK _ _ ?_
              clear hK K
              refine wpAnyIn_done (by kernel_rfl) ?_ _
              gi_wp2
              obtain ⟨f1, f2, f3⟩ := fin w5 w6 b5' ht6
              exact ⟨f1, rfl, hj6, f3.turn⟩
        · go_simp
          gi_wp2_with (refine ⟨trivial, ?_⟩; gi_at_call 23; refine (CallsIn.inRound l (callsIn_wide.2 (cC _ (Below.refl _ _).drew))).mono ?_; rintro e w5 ⟨a5, c5, rfl, o5, b5⟩; have hcY5 := (b5.cell (p := ⟨w.heap.size, 0, none⟩) hit.ybox.lt).trans hcY; have b5' : Below V.heap.size V w5 := ((Below.refl _ V).drew).trans b5; have r5 := (owns_row o5 hsmall).1)
          refine wpAnyIn_ready (rs := [0]) (by kernel_rfl) (by simp) ?_
          refine AllReadyIn.cons rfl (fun K hK => ?_) AllReadyIn.nil
          · go_simp
            refine hK _ _ ?_
            clear hK K
            refine wpAnyIn_ready (rs := [4]) (by kernel_rfl) (by simp) ?_
            refine AllReadyIn.cons rfl (fun K hK => ?_) AllReadyIn.nil
            go_simp
            refine ⟨trivial, ?_⟩
            refine (CallsIn.inRound l (callsIn_wide.2 (cY w5 a5 c5 b5' r5))).mono ?_
            rintro e w6 (⟨rfl, hj6, ht6⟩ | ⟨rfl, hj6, ht6⟩)
            · go_simp
              refine hK _ _ ?_
              clear hK K
              refine wpAnyIn_ready (rs := [5]) (by kernel_rfl) (by simp) ?_
              refine AllReadyIn.cons rfl (fun K hK => ?_) AllReadyIn.nil
              go_simp
              refine hK _ _ ?_
              clear hK K
              refine wpAnyIn_done (by kernel_rfl) ?_ _
              gi_wp2
              obtain ⟨f1, f2, f3⟩ := fin w5 w6 b5' ht6
              exact ⟨f1, f2, hj6, f3⟩
            · go_simp
              refine hK _ _ ?_
              clear hK K
              refine wpAnyIn_ready (rs := [5]) (by kernel_rfl) (by simp) ?_
              refine AllReadyIn.cons rfl (fun K hK => ?_) AllReadyIn.nil
              go_simp
              refine hK _ _ ?_
              clear hK K
              refine wpAnyIn_done (by kernel_rfl) ?_ _
              gi_wp2
              obtain ⟨f1, f2, f3⟩ := fin w5 w6 b5' ht6
              exact ⟨f1, rfl, hj6, f3.turn⟩
      · go_simp
        gi_wp2_with (refine ⟨trivial, ?_⟩; gi_at_call 23; refine (CallsIn.inRound l (callsIn_wide.2 (cC _ (Below.refl _ _).drew))).mono ?_; rintro e w5 ⟨a5, c5, rfl, o5, b5⟩; have hcY5 := (b5.cell (p := ⟨w.heap.size, 0, none⟩) hit.ybox.lt).trans hcY; have b5' : Below V.heap.size V w5 := ((Below.refl _ V).drew).trans b5; have r5 := (owns_row o5 hsmall).1)
        refine wpAnyIn_ready (rs := [0, 1]) (by kernel_rfl) (by simp) ?_
        refine AllReadyIn.cons rfl (fun K hK => ?_) (AllReadyIn.cons rfl (fun K hK => ?_) AllReadyIn.nil)
        · go_simp
          refine hK _ _ ?_
          clear hK K
          refine wpAnyIn_ready (rs := [1]) (by kernel_rfl) (by simp) ?_
          refine AllReadyIn.cons rfl (fun K hK => ?_) AllReadyIn.nil
          · go_simp
            refine hK _ _ ?_
            clear hK K
            refine wpAnyIn_ready (rs := [4]) (by kernel_rfl) (by simp) ?_
            refine AllReadyIn.cons rfl (fun K hK => ?_) AllReadyIn.nil
            go_simp
            refine ⟨trivial, ?_⟩
            refine (CallsIn.inRound l (callsIn_wide.2 (cY w5 a5 c5 b5' r5))).mono ?_
            rintro e w6 (⟨rfl, hj6, ht6⟩ | ⟨rfl, hj6, ht6⟩)
            · go_simp
              refine hK _ _ ?_
              clear hK K
              refine wpAnyIn_ready (rs := [5]) (by kernel_rfl) (by simp) ?_
              refine AllReadyIn.cons rfl (fun K hK => ?_) AllReadyIn.nil
              go_simp
              refine hK _ _ ?_
              clear hK K
              refine wpAnyIn_done (by kernel_rfl) ?_ _
              gi_wp2
              obtain ⟨f1, f2, f3⟩ := fin w5 w6 b5' ht6
              exact ⟨f1, f2, hj6, f3⟩
            · go_simp
              refine hK _ _ ?_
              clear hK K
              refine wpAnyIn_ready (rs := [5]) (by kernel_rfl) (by simp) ?_
              refine AllReadyIn.cons rfl (fun K hK => ?_) AllReadyIn.nil
              go_simp
              refine hK _ _ ?_
              clear hK K
              refine wpAnyIn_done (by kernel_rfl) ?_ _
              gi_wp2
              obtain ⟨f1, f2, f3⟩ := fin w5 w6 b5' ht6
              exact ⟨f1, rfl, hj6, f3.turn⟩
        · go_simp
          refine hK _ _ ?_
          clear hK K
          refine wpAnyIn_ready (rs := [0]) (by kernel_rfl) (by simp) ?_
          refine AllReadyIn.cons rfl (fun K hK => ?_) AllReadyIn.nil
          · go_simp
            refine hK _ _ ?_
            clear hK K
            refine wpAnyIn_ready (rs := [4]) (by kernel_rfl) (by simp) ?_
            refine AllReadyIn.cons rfl (fun K hK => ?_) AllReadyIn.nil
            go_simp
            refine ⟨trivial, ?_⟩
            refine (CallsIn.inRound l (callsIn_wide.2 (cY w5 a5 c5 b5' r5))).mono ?_
            rintro e w6 (⟨rfl, hj6, ht6⟩ | ⟨rfl, hj6, ht6⟩)
            · go_simp
              refine hK _ _ ?_
              clear hK K
              refine wpAnyIn_ready (rs := [5]) (by kernel_rfl) (by simp) ?_
              refine AllReadyIn.cons rfl (fun K hK => ?_) AllReadyIn.nil
              go_simp
              refine hK _ _ ?_
              clear hK K
              refine wpAnyIn_done (by kernel_rfl) ?_ _
              gi_wp2
              obtain ⟨f1, f2, f3⟩ := fin w5 w6 b5' ht6
              exact ⟨f1, f2, hj6, f3⟩
            · go_simp
              refine hK _ _ ?_
              clear hK K
              refine wpAnyIn_ready (rs := [5]) (by kernel_rfl) (by simp) ?_
              refine AllReadyIn.cons rfl (fun K hK => ?_) AllReadyIn.nil
              go_simp
              refine hK _ _ ?_
              clear hK K
              refine wpAnyIn_done (by kernel_rfl) ?_ _
              gi_wp2
              obtain ⟨f1, f2, f3⟩ := fin w5 w6 b5' ht6
              exact ⟨f1, rfl, hj6, f3.turn⟩
  case done =>
    rintro D' ys V hD hS ⟨hj, hit⟩ hK
    gi_wp2
    refine ⟨by simp, .inl ⟨_, _, rfl, run_takeDeferred hK, ?_⟩⟩
    have hg := grownBy_putObj' V D' (.deferred none)
    have hq : ∀ r, Option.some D' = Option.some r → w.heap.size ≤ r ∧ ∃ o : Obj, V.heap[r]? = Option.some o ∧ o.isCells = false := fun r e => by cases e; exact ⟨by omega, _, hK, rfl⟩
    exact ⟨_, results_none rfl _ _ _, ⟨_, rfl⟩, turn_own (α := Rec zs) (Nat.le_refl _) ys V _ _ hit.turn hg hq, .inl ⟨ys, hS, hJ ys V _ _ hj hg hq⟩⟩
  case stop =>
    rintro D' c pre V hD hS ⟨rfl, hj, ht⟩ hK
    gi_wp2
    refine ⟨by simp, .inl ⟨_, _, rfl, run_takeDeferred hK, ?_⟩⟩
    have hg := grownBy_putObj' V D' (.deferred none)
    have hq : ∀ r, Option.some D' = Option.some r → w.heap.size ≤ r ∧ ∃ o : Obj, V.heap[r]? = Option.some o ∧ o.isCells = false := fun r e => by cases e; exact ⟨by omega, _, hK, rfl⟩
    exact ⟨_, results_none rfl _ _ _, ⟨_, rfl⟩, turn_own (α := Rec zs) (Nat.le_refl _) pre V _ _ ht hg hq, .inr ⟨pre, hS, hJx pre V _ _ hj hg hq⟩⟩

end Go.Proofs.Ytnehkjabhmhijaa.Wal
