/-
  The program's robot and the chapter's own, side by side.
-/
import Derived.Test.YtedhoghleelhfaaGreatQRobXf
import Derived.Test.YtedhoghleelhfaaGreatQRobXc
import Derived.Test.YtedhoghleelhfaaGreatQRobXb
namespace Go.Proofs.YtedhoghleelhfaaGreat.Rob
set_option linter.unusedVariables false
set_option linter.unusedSimpArgs false
open Go Go.RowKit Go.Shelf Go.Proofs Go.Proofs.YtedhoghleelhfaaGreat.Lk Go.Proofs.YtedhoghleelhfaaGreat.Plain
attribute [local go_sem] Oper.semAt_some

theorem as_retR {P : Program} {f : FuncId} {args : Array Value} {w : World} {v : Value} {S : World → Prop} (h : Calls P f args w fun e w' => e = .returned v ∧ S w') : Calls P f args w fun e w' => ∃ u, e = .returned u ∧ (u = v ∧ S w') :=
  h.mono fun e w' ⟨h1, h2⟩ => ⟨v, h1, rfl, h2⟩
theorem eqMv_same (m : Mv) (w : World) : (Op.equalIn 10000 44 (.agg (mvA m)) (.agg (mvA m))).run Tryz.prog w = .ok true w := by
  cases m
  simp only [mvA, mvL]
  go_simp
theorem guardMv : Tryz.prog.eqGuardType Tryz.prog.depth 44 = false := by kernel_rfl
theorem eqPo_same (x y : Int) (d : Bool) (w : World) : (Op.equalIn 10000 42 (.agg (poA x y d)) (.agg (poA x y d))).run Tryz.prog w = .ok true w := eqPo (decide_eq_true rfl) w
/- What stays while the other one is asked. -/
theorem kin_stays {w w' : World} {k u a v p : Nat} {cs : Array Value} {T : TypeId} (hT : T ≠ 3) (h : Kin.KinAt w k u a v) (hp : w.heap[p]? = some (.cells cs T (0, 0))) (hk : p ≠ k) (hb : Xn p w w') : Kin.KinAt w' k u a v := by
  have e := hb.block k h.nums.lt (Ne.symm hk)
  have hc : ∀ o, w'.cell? ⟨k, o, none⟩ = w.cell? ⟨k, o, none⟩ := fun o => Kin.cell_same e
  refine ⟨⟨(hc 0).trans h.nums.unit, (hc 1).trans h.nums.accel, (hc 2).trans h.nums.speed⟩, fun o => (Kin.frozen_same e).trans (h.froz o), fun n h1 h2 => ?_⟩
  obtain ⟨l, s⟩ := h.prof n h1 h2
  refine ⟨(hc _).trans l, ?_⟩
  rcases s with ⟨e0, e3⟩ | ⟨e0, x, e3, hr⟩
  · exact .inl ⟨(hc _).trans e0, (hc _).trans e3⟩
  · refine .inr ⟨(hc _).trans e0, x, (hc _).trans e3, ?_⟩
    refine ⟨hr.1, ?_⟩
    rcases hr.2 with hn | ⟨g, cap, cur, rfl, hb', hg, rest⟩
    · exact .inl hn
    · refine .inr ⟨g, cap, cur, rfl, hb', ?_, rest⟩
      by_cases hgp : g = p
      · rw [hgp, hp] at hg
        cases hg
        exact absurd rfl hT
      · exact (hb.block g (Array.getElem?_eq_some_iff.1 hg).1 hgp).trans hg
theorem rb_stays {w w' : World} {R : Wh} {r : Rb} {q : Nat} {cs : Array Value} {T : TypeId} (h : RbAt w R r) (o : Off R q) (hq : w.heap[q]? = some (.cells cs T (0, 0))) (hT : T ≠ 3) (x : Xn q w w') : RbAt w' R r :=
  ⟨(x.block _ h.plt o.1).trans h.at_, grid_other (p := q) h.grid (x.block _ h.grid.ltg o.2.1) (x.block _ h.grid.ltu o.2.2.1), kin_stays hT h.kin hq (Ne.symm o.2.2.2) x, h.ok, h.pg, h.pu, h.pk, h.kg, h.ku⟩
def Fr (R : Wh) (q : Nat) (w w' : World) : Prop := w.heap.size ≤ w'.heap.size ∧ ∀ b, b < w.heap.size → b ≠ R.p → b ≠ R.k → b ≠ q → w'.heap[b]? = w.heap[b]?
theorem Fr.refl (R : Wh) (q : Nat) (w : World) : Fr R q w w := ⟨Nat.le_refl _, fun _ _ _ _ _ => rfl⟩
theorem Fr.left {R : Wh} {q : Nat} {W1 w w1 : World} (h : Fr R q W1 w) (t : Tn R w w1) : Fr R q W1 w1 := ⟨Nat.le_trans h.1 t.size, fun b hb h1 h2 h3 => (t.block b (Nat.lt_of_lt_of_le hb h.1) h1 h2).trans (h.2 b hb h1 h2 h3)⟩
theorem Fr.right {R : Wh} {q : Nat} {W1 w w1 : World} (h : Fr R q W1 w) (x : Xn q w w1) : Fr R q W1 w1 := ⟨Nat.le_trans h.1 x.size, fun b hb h1 h2 h3 => (x.block b (Nat.lt_of_lt_of_le hb h.1) h3).trans (h.2 b hb h1 h2 h3)⟩
structure Al (W0 W1 w : World) (R : Wh) (q : Nat) (cs : Array Value) (r r' : Rb) : Prop where
  rb : RbAt w R r
  rc : ∃ gn cu, RcAt w q cs r' gn cu
  off : Off R q
  bel : Below W0.heap.size W0 w
  hp : W0.heap.size ≤ R.p
  hk : W0.heap.size ≤ R.k
  hq : W0.heap.size ≤ q
  fr : Fr R q W1 w
structure Bk (w : World) (R : Wh) (q b : Nat) (cs : Array Value) (T : TypeId) : Prop where
  at_ : w.heap[b]? = some (.cells cs T (0, 0))
  xp : b ≠ R.p
  xk : b ≠ R.k
  xq : b ≠ q
section
variable {W0 W1 w w1 : World} {R : Wh} {q : Nat} {cs : Array Value} {r r' r1 : Rb} {b : Nat} {bs : Array Value} {T : TypeId}
theorem Al.qlt (h : Al W0 W1 w R q cs r r') : q < w.heap.size := by
  obtain ⟨gn, cu, h1⟩ := h.rc
  exact h1.lt
theorem Al.le (h : Al W0 W1 w R q cs r r') : W0.heap.size ≤ w.heap.size := Nat.le_trans h.hq (Nat.le_of_lt h.qlt)
theorem Al.left (h : Al W0 W1 w R q cs r r') (G : RbAt w1 R r1) (t : Tn R w w1) : Al W0 W1 w1 R q cs r1 r' := by
  obtain ⟨gn, cu, h1⟩ := h.rc
  exact ⟨G, ⟨gn, cu, (t.block q h1.lt (Ne.symm h.off.1) (Ne.symm h.off.2.2.2)).trans h1.at_, h1.len, h1.run_⟩, h.off, bel_tn h.bel t h.hp h.hk h.le, h.hp, h.hk, h.hq, h.fr.left t⟩
theorem Al.right (h : Al W0 W1 w R q cs r r') (G : ∃ gn cu, RcAt w1 q cs r1 gn cu) (x : Xn q w w1) : Al W0 W1 w1 R q cs r r1 := by
  obtain ⟨gn, cu, h1⟩ := h.rc
  exact ⟨rb_stays h.rb h.off h1.at_ (by decide) x, G, h.off, Xn.past h.bel x h.hq h.le, h.hp, h.hk, h.hq, h.fr.right x⟩
theorem Al.go (h : Al W0 W1 w R q cs r r') (hb : Below w.heap.size w w1) : Al W0 W1 w1 R q cs r r' := by
  obtain ⟨gn, cu, h1⟩ := h.rc
  exact ⟨h.rb.go hb, ⟨gn, cu, h1.go hb⟩, h.off, h.bel.trans (hb.mono h.le), h.hp, h.hk, h.hq, h.fr.right (Xn.below hb)⟩
theorem Al.base (h : Al W0 W1 w R q cs r r') : Al W0 w w R q cs r r' := ⟨h.rb, h.rc, h.off, h.bel, h.hp, h.hk, h.hq, Fr.refl _ _ _⟩
theorem Al.box (h : Al W0 W1 w R q cs r r') {g : Nat} (hg : W1.heap[g]? = some (.cells bs T (0, 0))) (h1 : g ≠ R.p) (h2 : g ≠ R.k) (h3 : g ≠ q) : w.heap[g]? = some (.cells bs T (0, 0)) := (h.fr.2 g (Array.getElem?_eq_some_iff.1 hg).1 h1 h2 h3).trans hg
theorem Bk.lt (h : Bk w R q b bs T) : b < w.heap.size := (Array.getElem?_eq_some_iff.1 h.at_).1
theorem Bk.left (h : Bk w R q b bs T) (t : Tn R w w1) : Bk w1 R q b bs T := ⟨(t.block b h.lt h.xp h.xk).trans h.at_, h.xp, h.xk, h.xq⟩
theorem Bk.right (h : Bk w R q b bs T) (x : Xn q w w1) : Bk w1 R q b bs T := ⟨(x.block b h.lt h.xq).trans h.at_, h.xp, h.xk, h.xq⟩
theorem Bk.go (h : Bk w R q b bs T) (hb : Below w.heap.size w w1) : Bk w1 R q b bs T := ⟨(hb.block b h.lt).trans h.at_, h.xp, h.xk, h.xq⟩
theorem Bk.new (h : Al W0 W1 w R q cs r r') (hw : w.alloc (.cells bs T) = w1) : Below w.heap.size w w1 ∧ Bk w1 R q w.heap.size bs T :=
  ⟨by rw [← hw]; exact (Below.refl _ _).alloc (Nat.le_refl _) _, by rw [← hw]; exact World.alloc_heap_new _ _, Ne.symm (Nat.ne_of_lt h.rb.plt), Ne.symm (Nat.ne_of_lt h.rb.klt), Ne.symm (Nat.ne_of_lt h.qlt)⟩
theorem LsAt.right {B : Nat} {v : Value} {o : Option Tl} (h : LsAt B w v o) (x : Xn q w w1) (hq : q < B) : LsAt B w1 v o := by
  cases o with
  | none => exact h
  | some t =>
    obtain ⟨g, e, hg, ha⟩ := h
    exact ⟨g, e, hg, (x.block g (Array.getElem?_eq_some_iff.1 ha).1 (by omega)).trans ha⟩
end
/- Lists of one telegram, or none. -/
set_option maxRecDepth 100000 in
set_option maxHeartbeats 2000000 in
theorem same_ls {w : World} {B1 B2 : Nat} {v1 v2 : Value} {o : Option Tl} (h1 : LsAt B1 w v1 o) (h2 : LsAt B2 w v2 o) : Calls Tryz.prog 31 #[v1, v2] w fun e w' => ∃ z, e = .returned z ∧ (z = .bool true ∧ Below w.heap.size w w') := by
  cases o with
  | none =>
    have e1 : v1 = .slice none 0 0 := h1
    have e2 : v2 = .slice none 0 0 := h2
    subst e1
    subst e2
    clear h1 h2
    go_enter Tryz.func31, Tryz.ntmps31
    go_wp2_with fail
    go_loopw [5] (fun c wr => c = .int .i64 0 ∧ wr = w) (fun c _ => 0)
    case atStart => exact ⟨rfl, rfl⟩
    case round =>
      obtain ⟨rfl, rfl⟩ := hrel
      go_wp2_with fail
      go_ret
      exact ⟨_, rfl, rfl, Below.refl _ _⟩
  | some t =>
    obtain ⟨ga, rfl, _, ha⟩ := h1
    obtain ⟨gb, rfl, _, hb⟩ := h2
    have HA : Hid (w.heap[ga]? = some (.cells (tlA t) 46 (0, 0))) := ha
    have HB : Hid (w.heap[gb]? = some (.cells (tlA t) 46 (0, 0))) := hb
    clear ha hb
    go_enter Tryz.func31, Tryz.ntmps31
    go_wp2_with fail
    go_loopw [5] (fun c wr => ∃ k : Nat, c = .int .i64 k ∧ k ≤ 1 ∧ Below w.heap.size w wr) (fun c _ => 1 - (intOf c).toNat)
    case atStart => exact ⟨0, rfl, by omega, Below.refl _ _⟩
    case round =>
      obtain ⟨k, rfl, hk, bw⟩ := hrel
      have HBW : Hid (Below w.heap.size w wr) := bw
      clear bw
      by_cases hlt : k < 1
      · obtain rfl : k = 0 := by omega
        clear hk hlt
        go_upto_region 6 with fail
        refine start_held (S := fun u => Below wr.heap.size wr u) 9 rfl (by kernel_rfl) ((Below.refl _ _).drew) ?_
        simp only [Array.replicate_succ, Array.replicate_zero, List.push_toArray, List.nil_append, List.cons_append]
        have HSA : Hid (∀ u, Below wr.heap.size wr u → u.heap[ga]? = some (.cells (tlA t) 46 (0, 0))) := fun u hu => ((HBW.out.trans (hu.mono HBW.out.size)).block _ (Array.getElem?_eq_some_iff.1 HA.out).1).trans HA.out
        have HSB : Hid (∀ u, Below wr.heap.size wr u → u.heap[gb]? = some (.cells (tlA t) 46 (0, 0))) := fun u hu => ((HBW.out.trans (hu.mono HBW.out.size)).block _ (Array.getElem?_eq_some_iff.1 HB.out).1).trans HB.out
        have hS0 : Below wr.heap.size wr wr.drew := (Below.refl _ _).drew
        generalize wr.drew = x0 at *
        refine tkq 0 hS0 ?_
        refine tkq 1 hS0 ?_
        refine tkq 2 hS0 ?_
        refine tkf 3 hS0 rfl (v := .agg (tlA t)) (fun u hu => by exact run_load_at 46 _ rfl ⟨ga, 0, none⟩ rfl _ (load_tele (HSA.out u hu))) ?_
        refine tkq 4 hS0 ?_
        refine tkq 5 hS0 ?_
        refine tkq 6 hS0 ?_
        refine tkf 7 hS0 rfl (v := .agg (tlA t)) (fun u hu => by exact run_load_at 46 _ rfl ⟨gb, 0, none⟩ rfl _ (load_tele (HSB.out u hu))) ?_
        refine tkf 8 hS0 rfl (v := .bool false) (fun u hu => by exact run_neq_agg 46 _ _ rfl gTele (tlA t) (tlA t) true rfl rfl (eqTele_self t _)) ?_
        refine done_held (by kernel_rfl) ?_ _
        have HE : Hid (Below w.heap.size w x0) := HBW.out.trans (hS0.mono HBW.out.size)
        clear hS0
        go_wp2_with fail
        go_roundw
        case rel => exact ⟨1, by go_num, by omega, HE.out⟩
        case measure => simp [intOf]
      · obtain rfl : k = 1 := by omega
        clear hk hlt
        go_wp2_with fail
        go_ret
        exact ⟨_, rfl, rfl, HBW.out⟩
set_option maxRecDepth 100000 in
set_option maxHeartbeats 4000000 in
theorem alike18 {W0 W1 w : World} {R : Wh} {q : Nat} {cs : Array Value} {r : Rb} (h : Al W0 W1 w R q cs r r) : Calls Tryz.prog 10 #[.pointer (some ⟨R.p, 0, none⟩), .pointer (some ⟨q, 0, none⟩)] w fun e w' => ∃ z, e = .returned z ∧ (z = .bool true ∧ Below w.heap.size w w') := by
  obtain ⟨gn, cu, hrc⟩ := h.rc
  have HR0 : Hid (XAt w q cs (rxOf r gn cu)) := XAt.of hrc
  have HA0 : Hid (Al W0 W1 w R q cs r r) := h
  have cN := now_any h.rb
  clear h hrc
  go_enter Tryz.func10, Tryz.ntmps10
  go_upto_region 2 with (first
    | (go_at_call 28; refine cN.mono ?_; rintro e w1 ⟨rfl, b1⟩; obtain ⟨w2, hw2⟩ : ∃ z, w1.alloc (.cells (mvA r.mv) 44) = z := ⟨_, rfl⟩; have b2 : Below w1.heap.size w1 w2 := (by rw [← hw2]; exact (Below.refl _ _).alloc (Nat.le_refl _) _); have z2 : w2.heap[w1.heap.size]? = some (.cells (mvA r.mv) 44 (0, 0)) := (by rw [← hw2]; exact World.alloc_heap_new _ _); obtain ⟨b5, hb5⟩ : ∃ b5, w1.heap.size = b5 := ⟨_, rfl⟩; have HW2 : Hid (w1.alloc (.cells (mvA r.mv) 44) = w2 ∧ w1.heap.size = b5) := ⟨hw2, hb5⟩; have HZ5 : Hid (w2.heap[b5]? = some (.cells (mvA r.mv) 44 (0, 0))) := hb5 ▸ z2; have HA2 : Hid (Al W0 W1 w2 R q cs r r) := (HA0.out.go b1).go b2; have HRX2 : Hid (XAt w2 q cs (rxOf r gn cu)) := (HR0.out.go b1).go b2; have HBW2 : Hid (Below w.heap.size w w2) := bcat b1 b2; clear cN b1 b2 z2 hw2 hb5)
    | (have X' := HW2; refine wpList_new rfl rfl 44 5 (.tmp 10) rfl rfl rfl rfl (mvA mv0) (mvA r.mv) (zeroMove _) rfl rfl infoMove rfl (mvA_one _) ?_; rw [HW2.out.1, HW2.out.2]; clear HW2))
  refine start_held (S := fun u => Below w2.drew.heap.size w2.drew u) 49 rfl (by kernel_rfl) (Below.refl _ _) ?_
  simp only [Array.replicate_succ, Array.replicate_zero, List.push_toArray, List.nil_append, List.cons_append]
  have HAL : Hid (Al W0 W1 w2.drew R q cs r r) := HA2.out.go (Below.refl _ _).drew
  have hrx := HRX2.out.go ((Below.refl _ _).drew : Below w2.heap.size w2 w2.drew)
  have HRX : Hid (XAt w2.drew q cs (rxOf r gn cu)) := hrx
  clear hrx
  have HB5 : Hid (∀ u, Below w2.drew.heap.size w2.drew u → u.heap[b5]? = some (.cells (mvA r.mv) 44 (0, 0))) := fun u hu => ((((Below.refl _ _).drew : Below w2.heap.size w2 w2.drew).trans (hu.mono (Below.refl w2.heap.size w2).drew.size)).block _ (Array.getElem?_eq_some_iff.1 HZ5.out).1).trans HZ5.out
  have HW0 : Hid (Below w.heap.size w w2.drew) := HBW2.out.drew
  have hS0 : Below w2.drew.heap.size w2.drew w2.drew := Below.refl _ _
  generalize w2.drew = x0 at *
  refine tkq 0 hS0 ?_
  refine tkq 2 hS0 ?_
  refine tkq 3 hS0 ?_
  refine tkq 4 hS0 ?_
  refine tkf 5 hS0 rfl (v := .agg (poA r.px r.py r.pd)) (fun u hu => by exact run_load_at 42 _ rfl ⟨q, 17, none⟩ rfl _ ((HRX.out.go hu).pose)) ?_
  refine wpAnyH_ready (rs := [1]) (by kernel_rfl) (by simp) (AllReadyH.cons ((nth_eq _ 1).trans rfl) ?_ AllReadyH.nil)
  intro K1 hK1
  refine call_in hK1 (by kernel_rfl) 29 #[.pointer (some ⟨R.p, 0, none⟩)] (by go_simp) _ (as_retR (pose_any (HAL.out.rb.go hS0))) ?_
  rintro v1 x1 ⟨rfl, b1⟩
  have hS1 := bcat hS0 b1
  refine ⟨hS1, ?_⟩
  simp only [Act.put, List.setIfInBounds_toArray, List.set_cons_zero, List.set_cons_succ]
  refine tkf 6 hS1 rfl (v := .bool true) (fun u hu => by exact run_eql_agg 42 _ _ rfl guardPo (poA r.px r.py r.pd) (poA r.px r.py r.pd) true rfl rfl (eqPo_same _ _ _ _)) ?_
  refine tkq 7 hS1 ?_
  refine tkq 8 hS1 ?_
  refine tkq 10 hS1 ?_
  refine tkq 11 hS1 ?_
  refine tkq 12 hS1 ?_
  refine tkf 13 hS1 rfl (fun u hu => by have zz0 := (fun (u : World) (hu : Below x0.heap.size x0 u) => (show u.cell? ⟨q, 20, none⟩ = some (.int .i64 r.ld) from (HRX.out.go hu).ld)) u hu; go_simp; try rfl) ?_
  refine wpAnyH_ready (rs := [9]) (by kernel_rfl) (by simp) (AllReadyH.cons ((nth_eq _ 9).trans rfl) ?_ AllReadyH.nil)
  intro K2 hK2
  refine call_in hK2 (by kernel_rfl) 30 #[.pointer (some ⟨R.p, 0, none⟩)] (by go_simp) _ (as_retR (load_any (HAL.out.rb.go hS1))) ?_
  rintro v2 x2 ⟨rfl, b2⟩
  rw [b2]
  clear b2 x2
  have hS2 := hS1
  refine ⟨hS2, ?_⟩
  simp only [Act.put, List.setIfInBounds_toArray, List.set_cons_zero, List.set_cons_succ]
  refine tkq 14 hS2 ?_
  refine tkq 15 hS2 ?_
  refine tkq 16 hS2 ?_
  refine tkq 17 hS2 ?_
  refine tkq 19 hS2 ?_
  refine tkq 20 hS2 ?_
  refine tkq 21 hS2 ?_
  refine tkf 22 hS2 rfl (fun u hu => by have zz0 := (fun (u : World) (hu : Below x0.heap.size x0 u) => (show u.cell? ⟨q, 21, none⟩ = some (.int .i64 r.ep) from (HRX.out.go hu).ep)) u hu; go_simp; try rfl) ?_
  refine wpAnyH_ready (rs := [18]) (by kernel_rfl) (by simp) (AllReadyH.cons ((nth_eq _ 18).trans rfl) ?_ AllReadyH.nil)
  intro K3 hK3
  refine call_in hK3 (by kernel_rfl) 27 #[.pointer (some ⟨R.p, 0, none⟩)] (by go_simp) _ (as_retR (epoch_any (HAL.out.rb.go hS2))) ?_
  rintro v3 x3 ⟨rfl, b3⟩
  rw [b3]
  clear b3 x3
  have hS3 := hS2
  refine ⟨hS3, ?_⟩
  simp only [Act.put, List.setIfInBounds_toArray, List.set_cons_zero, List.set_cons_succ]
  refine tkq 23 hS3 ?_
  refine tkq 24 hS3 ?_
  refine tkq 25 hS3 ?_
  refine tkf 26 hS3 rfl (v := .agg (mvA r.mv)) (fun u hu => by exact run_load_at 44 _ rfl ⟨b5, 0, none⟩ rfl _ (mv_all (HB5.out u hu))) ?_
  refine tkq 27 hS3 ?_
  refine tkq 28 hS3 ?_
  refine tkq 29 hS3 ?_
  refine tkf 30 hS3 rfl (v := .agg (mvA r.mv)) (fun u hu => by exact run_load_at 44 _ rfl ⟨q, 24, none⟩ rfl _ ((HRX.out.go hu).move)) ?_
  refine tkf 31 hS3 rfl (v := .bool true) (fun u hu => by exact run_eql_agg 44 _ _ rfl guardMv (mvA r.mv) (mvA r.mv) true rfl rfl (eqMv_same _ _)) ?_
  refine tkq 32 hS3 ?_
  refine tkq 33 hS3 ?_
  refine tkq 34 hS3 ?_
  refine tkq 35 hS3 ?_
  refine tkq 36 hS3 ?_
  refine tkq 37 hS3 ?_
  refine tkf 38 hS3 rfl (fun u hu => by have zz0 := (fun (u : World) (hu : Below x0.heap.size x0 u) => (show u.cell? ⟨q, 23, none⟩ = some (.bool (under r)) from (HRX.out.go hu).un)) u hu; go_simp; try rfl) ?_
  refine tkf 39 hS3 rfl (v := .bool true) (fun u hu => by cases under r <;> (go_simp; try rfl)) ?_
  refine tkq 40 hS3 ?_
  refine tkq 41 hS3 ?_
  refine tkq 42 hS3 ?_
  refine tkq 44 hS3 ?_
  refine wpAnyH_ready (rs := [43]) (by kernel_rfl) (by simp) (AllReadyH.cons ((nth_eq _ 43).trans rfl) ?_ AllReadyH.nil)
  intro K4 hK4
  refine call_in hK4 (by kernel_rfl) 32 #[.pointer (some ⟨R.p, 0, none⟩)] (by go_simp) _ (tell_any (HAL.out.rb.go hS3)) ?_
  rintro v4 x4 ⟨la4, b4⟩
  have hS4 := bcat hS3 b4
  refine ⟨hS4, ?_⟩
  simp only [Act.put, List.setIfInBounds_toArray, List.set_cons_zero, List.set_cons_succ]
  refine wpAnyH_ready (rs := [45]) (by kernel_rfl) (by simp) (AllReadyH.cons ((nth_eq _ 45).trans rfl) ?_ AllReadyH.nil)
  intro K5 hK5
  refine call_in hK5 (by kernel_rfl) 33 #[.pointer (some ⟨q, 0, none⟩)] (by go_simp) _ (rtell_any (HRX.out.go hS4)) ?_
  rintro v5 x5 ⟨lb5, b5⟩
  have hS5 := bcat hS4 b5
  have la5 := la4.go b5
  refine ⟨hS5, ?_⟩
  simp only [Act.put, List.setIfInBounds_toArray, List.set_cons_zero, List.set_cons_succ]
  refine wpAnyH_ready (rs := [46]) (by kernel_rfl) (by simp) (AllReadyH.cons ((nth_eq _ 46).trans rfl) ?_ AllReadyH.nil)
  intro K6 hK6
  refine call_in hK6 (by kernel_rfl) 31 #[v4, v5] (by go_simp) _ (same_ls la5 lb5) ?_
  rintro v6 x6 ⟨rfl, b6⟩
  have hS6 := bcat hS5 b6
  refine ⟨hS6, ?_⟩
  simp only [Act.put, List.setIfInBounds_toArray, List.set_cons_zero, List.set_cons_succ]
  refine tkq 47 hS6 ?_
  refine tkq 48 hS6 ?_
  refine done_held (by kernel_rfl) ?_ _
  have HE : Hid (Below w.heap.size w x6) := HW0.out.trans (hS6.mono HW0.out.size)
  clear hS0
  go_wp2
  go_ret
  exact ⟨_, rfl, rfl, HE.out⟩
end Go.Proofs.YtedhoghleelhfaaGreat.Rob
/-
  A call at both robots.
-/
namespace Go.Proofs.YtedhoghleelhfaaGreat.Rob
set_option linter.unusedVariables false
set_option linter.unusedSimpArgs false
open Go Go.RowKit Go.Shelf Go.Proofs Go.Proofs.YtedhoghleelhfaaGreat.Lk Go.Proofs.YtedhoghleelhfaaGreat.Plain
attribute [local go_sem] Oper.semAt_some

def manyT : Nat → Rb → Rb
  | 0, r => r
  | n + 1, r => tickR (manyT n r)
def doR (R : Wh) (r : Rb) (x : Cl) : Rb :=
  if place x.kd 8 = 3 ∨ place x.kd 8 = 4 ∨ place x.kd 8 = 5 then manyT (1 + (place x.n 9).toNat) r
  else if place x.kd 8 = 6 then lateR r (place x.n 40 - 5)
  else if place x.kd 8 = 7 then carryR r x.n
  else hearR R r x.te
theorem OkR.many {n : Int} {r : Rb} (h : OkR n r) (hn : 0 ≤ n) : ∀ i : Nat, OkR (n + i) (manyT i r)
  | 0 => by show OkR (n + ((0 : Nat) : Int)) r; simpa using h
  | i + 1 => by
    have q := (OkR.many h hn i).tick (by omega)
    rw [show n + ((i + 1 : Nat) : Int) = n + (i : Int) + 1 by omega]
    exact q
theorem OkR.doR {n : Int} {R : Wh} {r : Rb} (h : OkR n r) (hn : 0 ≤ n) (hT : ∀ m t, (Kin.stopT R.ku R.ka R.kv m t : Int) ≤ 4611686018427387904) (x : Cl) : OkR (n + 9) (doR R r x) := by
  have pN := place_bd x.n 9 (by decide)
  unfold Rob.doR
  split
  · exact (h.many hn _).more (by omega)
  · split
    · exact (h.late _).more (by omega)
    · split
      · exact (h.carry _).more (by omega)
      · exact (h.hear hn hT).more (by omega)
theorem tick_under {n : Int} {r : Rb} (ok : OkR n r) (hu : under (tickR r) = true) : under r = true ∧ (tickR r).mv = r.mv ∧ (tickR r).st = r.st := by
  cases h : under r with
  | false =>
    exfalso
    unfold tickR at hu
    rw [if_pos h, h] at hu
    cases hu
  | true =>
    refine ⟨rfl, ?_⟩
    have h' : ¬ under r = false := by rw [h]; decide
    unfold tickR at hu ⊢
    rw [if_neg h'] at hu ⊢
    split
    · exact ⟨rfl, rfl⟩
    · next g1 =>
      rw [if_neg g1] at hu
      split
      · exact ⟨rfl, rfl⟩
      · next g2 =>
        rw [if_neg g2] at hu
        exfalso
        have : under (ended r) = false := rfl
        rw [this] at hu
        cases hu
set_option maxRecDepth 100000 in
set_option maxHeartbeats 2000000 in
theorem rtick_stands {w : World} {q : Nat} {cs : Array Value} {x : Rx} (h : XAt w q cs x) (hu : x.un = false) : Calls Tryz.prog 36 #[.pointer (some ⟨q, 0, none⟩)] w fun e w' => e = .returned (.tuple #[.agg (mvA mv0), .int .i64 0]) ∧ XAt w' q cs x ∧ Xn q w w' := by
  obtain ⟨w1, hw1⟩ : ∃ z, z = w.alloc (.cells (mvA mv0) 44) := ⟨_, rfl⟩
  have b1 : Below w.heap.size w w1 := by rw [hw1]; exact (Below.refl _ _).alloc (Nat.le_refl _) _
  have hm1 : w1.heap[w.heap.size]? = some (.cells (mvA mv0) 44 (0, 0)) := by rw [hw1]; exact World.alloc_heap_new _ _
  have Hw1 : Hid (XAt w1 q cs x ∧ Xn q w w1 ∧ w1.heap[w.heap.size]? = some (.cells (mvA mv0) 44 (0, 0))) := ⟨h.go b1, Xn.below b1, hm1⟩
  have HQ : Hid (w.heap.size ≠ q) := Ne.symm (Nat.ne_of_lt h.qlt)
  have k23 := Hw1.out.1.un
  rw [hu] at k23
  clear h b1 hm1 hu
  go_enter Tryz.func36, Tryz.ntmps36
  go_wp2_with (first | (refine wpList_allocAs rfl 44 rfl (mvA mv0) (zeroMove _) ?_; rw [← hw1]; clear hw1) | (refine wpList_buildAs rfl 44 _ rfl (mvA mv0) _ rfl builtMv0 ?_) | (refine wpList_store_row rfl 44 (.tmp 2) (.tmp 10) rfl w.heap.size (mvA mv0) rfl rfl 44 (mvA mv0) Hw1.out.2.2 infoMove rfl (mvA_one _) ?_))
  exact bodyPost_ret (Lk.results_cell_tmp Tryz.results36 _ _ w.heap.size (mvA mv0) rfl (load_row_of (cs := mvA mv0) (setRow_heap _ _ _ _ _ _ Hw1.out.2.2) (aggMove _) infoMove)) rfl ⟨rfl, Hw1.out.1.own (Only.setRow _ _ _) (Ne.symm HQ.out), Hw1.out.2.1.new (Only.setRow _ _ _) (Nat.le_refl _)⟩
section
variable {w : World} {q : Nat} {cs : Array Value} {r : Rb} {gn : Int} {cu : Bool}
theorem rtick_all (h : RcAt w q cs r gn cu) {n : Int} (hn : n ≤ 1000000000000) (ok : OkR n r) : Calls Tryz.prog 36 #[.pointer (some ⟨q, 0, none⟩)] w fun e w' => e = .returned (.tuple #[.agg (mvA (tickM r)), .int .i64 (tickH r)]) ∧ (∃ gn cu, RcAt w' q cs (tickR r) gn cu) ∧ Xn q w w' := by
  have hg : under r = true → gn = r.gn := fun hu => (h.run_ hu).1
  -- what has been going of a robot that stands is of no matter: it is put to 0 or more by the row
  obtain ⟨gn', e1, e2, e3, e4⟩ := rx_tick ok gn cu hg
  have X := XAt.of h
  by_cases hu : under r = true
  · have hgn := hg hu
    have o1 := ok.gn0
    have o2 := ok.gnn
    have o3 := ok.ltn
    refine (rtick_any X ok.lf0 ok.lf1 ok.la1 (show 0 ≤ gn by omega) (show gn ≤ 4000000000000000000 by omega) ok.lt0 (show r.lt ≤ 4000000000000000000 by omega)).mono fun e w' ⟨p1, p2, p3⟩ => ?_
    rw [e3, e4] at p1
    rw [e1] at p2
    refine ⟨p1, ⟨gn', cu, RcAt.x p2 fun hu2 => ⟨e2 hu2, ?_⟩⟩, p3⟩
    obtain ⟨_, m1, m2⟩ := tick_under ok hu2
    rw [m1, m2]
    exact (h.run_ hu).2
  · have hu' : under r = false := by simpa using hu
    refine (rtick_stands X hu').mono fun e w' ⟨p1, p2, p3⟩ => ?_
    have t1 : tickR r = r := by unfold tickR; rw [if_pos hu']
    have t2 : tickM r = mv0 := by unfold tickM; rw [if_pos hu']
    have t3 : tickH r = 0 := by unfold tickH; rw [if_pos hu']
    rw [t1, t2, t3]
    exact ⟨p1, ⟨gn, cu, RcAt.x p2 h.run_⟩, p3⟩
theorem rlate_all (h : RcAt w q cs r gn cu) {n : Int} (ok : OkR n r) (m : Int) : Calls Tryz.prog 38 #[.pointer (some ⟨q, 0, none⟩), .int .i64 m] w fun e w' => e = .returned (.tuple #[]) ∧ (∃ gn cu, RcAt w' q cs (lateR r m) gn cu) ∧ Xn q w w' := by
  refine (rdelay_any (XAt.of h) m ok.la0 ok.la1).mono fun e w' ⟨p1, p2, p3⟩ => ?_
  rw [rx_late] at p2
  refine ⟨p1, ⟨gn, cu, RcAt.x p2 fun hu => ?_⟩, Xn.only p3⟩
  cases h0 : under r with
  | false => rw [late_none h0] at hu; rw [h0] at hu; cases hu
  | true =>
    have e1 : (lateR r m).gn = r.gn := by unfold lateR; split <;> rfl
    have e2 : (lateR r m).st = r.st := by unfold lateR; split <;> rfl
    have e3 : (lateR r m).mv = r.mv := by unfold lateR; split <;> rfl
    rw [e1, e2, e3]
    exact h.run_ h0
end
set_option maxRecDepth 100000 in
set_option maxHeartbeats 4000000 in
theorem do_tick3 {W0 W1 w : World} {R : Wh} {q : Nat} {cs : Array Value} {r : Rb} (h : Al W0 W1 w R q cs r r) {n : Int} (h0 : 0 ≤ n) (hn : n ≤ 999999999000) (ok : OkR n r) (x : Cl)  (hk : place x.kd 8 = 3) : Calls Tryz.prog 11 #[.pointer (some ⟨R.p, 0, none⟩), .pointer (some ⟨q, 0, none⟩), .agg (clA x)] w fun e w' => ∃ z, e = .returned z ∧ (z = .bool true ∧ Al W0 W1 w' R q cs (doR R r x) (doR R r x)) := by
  have HDO : Hid (doR R r x = manyT (1 + (place x.n 9).toNat) r) := by
    show doR R r x = _
    unfold doR
    rw [hk]
    rfl
  obtain ⟨w1, hw1⟩ : ∃ z, w.alloc (.cells (clA x) 48) = z := ⟨_, rfl⟩
  obtain ⟨b1, Y1⟩ := Bk.new (bs := clA x) (T := 48) h hw1
  obtain ⟨b5, hb5⟩ : ∃ b5, w.heap.size = b5 := ⟨_, rfl⟩
  rw [hb5] at Y1
  have HW1 : Hid (w.alloc (.cells (clA x) 48) = w1 ∧ w.heap.size = b5) := ⟨hw1, hb5⟩
  have HA1 : Hid (Al W0 W1 w1 R q cs r r) := h.go b1
  have HB1 : Hid (Bk w1 R q b5 (clA x) 48) := Y1
  have HOK : Hid (OkR n r ∧ 0 ≤ n ∧ n ≤ 999999999000) := ⟨ok, h0, hn⟩
  have k0 : w1.cell? ⟨b5, 0, none⟩ = some (.int .i64 x.kd) := cl_cell Y1.at_ 0
  have cK := fun w => place_any x.kd 8 w (by decide) (by decide)
  clear h ok h0 hn hw1 b1 Y1 hb5
  have cN := fun w => place_any x.n 9 w (by decide) (by decide)
  have pN := place_bd x.n 9 (by decide)
  obtain ⟨pn, hpn⟩ : ∃ pn : Nat, place x.n 9 = (pn : Int) := ⟨(place x.n 9).toNat, by omega⟩
  have HPN : Hid ((place x.n 9).toNat = pn) := by show _ = _; omega
  rw [hpn] at cN pN
  clear hpn
  have HN9 : Hid (pn ≤ 8) := by show _ ≤ _; omega
  rw [hk] at cK
  clear hk
  go_enter Tryz.func11, Tryz.ntmps11
  go_wp2_with (first
    | (have X' := HW1; refine wpList_boxAt rfl 48 (.tmp 2) rfl (clA x) rfl ?_; rw [HW1.out.1, HW1.out.2]; clear HW1)
    | (have X' := cK; go_at_call 34; refine (cK _).mono ?_; rintro e yw ⟨rfl, hyw⟩; rw [hyw]; clear hyw cK))
  go_loopw [7] (fun ci wr => ∃ (i : Nat), ci = .int .i64 i ∧ i ≤ 1 + pn ∧ Al W0 W1 wr R q cs (manyT i r) (manyT i r) ∧ Bk wr R q b5 (clA x) 48) (fun ci _ => 1 + pn - (intOf ci).toNat)
  case atStart => exact ⟨0, rfl, Nat.zero_le _, HA1.out, HB1.out⟩
  case round =>
    obtain ⟨i, rfl, hi, hal, hbk⟩ := hrel
    have k1 : wr.cell? ⟨b5, 1, none⟩ = some (.int .i64 x.n) := cl_cell hbk.at_ 1
    by_cases hlt : i < 1 + pn
    · have h3 : (i : Int) < 1 + (pn : Int) := by omega
      have okI : OkR (n + i) (manyT i r) := HOK.out.1.many HOK.out.2.1 i
      obtain ⟨ri, hri⟩ : ∃ ri, manyT i r = ri := ⟨_, rfl⟩
      rw [hri] at okI hal
      have HRI : Hid (manyT (i + 1) r = tickR ri) := by show tickR (manyT i r) = _; rw [hri]
      have cT := tick_any hal.rb (n := n + i) (by have := HOK.out.2.2; have := HN9.out; omega) okI
      have HOI : Hid (OkR (n + i) ri ∧ n + i ≤ 1000000000000) := ⟨okI, by have := HOK.out.2.2; have := HN9.out; omega⟩
      have HAL : Hid (Al W0 W1 wr R q cs ri ri) := hal
      have HBK : Hid (Bk wr R q b5 (clA x) 48) := hbk
      clear hal hbk hri okI
      go_wp2_with (first
        | (go_at_call 34; refine (cN _).mono ?_; rintro e yw ⟨rfl, hyw⟩; rw [hyw]; clear hyw)
        | (have X' := cT; go_at_call 35; refine cT.mono ?_; clear cT; rintro e u1 ⟨rfl, ra, ta⟩; have A1 := HAL.out.left ra ta; have B1 := HBK.out.left ta; obtain ⟨u2, hu2⟩ : ∃ zz, u1.alloc (.cells (mvA (tickM ri)) 44) = zz := ⟨_, rfl⟩; obtain ⟨c2, Y2⟩ := Bk.new (bs := mvA (tickM ri)) (T := 44) A1 hu2; have A2 := A1.go c2; have B2 := B1.go c2; obtain ⟨g8, hg8⟩ : ∃ g8, u1.heap.size = g8 := ⟨_, rfl⟩; rw [hg8] at Y2; have HN2 : Hid (u1.alloc (.cells (mvA (tickM ri)) 44) = u2 ∧ u1.heap.size = g8) := ⟨hu2, hg8⟩; obtain ⟨gn2, cu2, rc2⟩ := A2.rc; have cR := rtick_all rc2 HOI.out.2 HOI.out.1; clear hu2 hg8 c2 ra ta A1 B1 rc2 k1)
        | (have X' := HN2; refine wpList_new rfl rfl 44 8 (.tmp 57) rfl rfl rfl rfl (mvA mv0) (mvA (tickM ri)) (zeroMove _) rfl rfl infoMove rfl (mvA_one _) ?_; rw [HN2.out.1, HN2.out.2]; clear HN2)
        | (have X' := cR; go_at_call 36; refine cR.mono ?_; clear cR; rintro e u3 ⟨rfl, rb3, tb⟩; have A3 := A2.right rb3 tb; have B3 := B2.right tb; have Y3 := Y2.right tb; obtain ⟨u4, hu4⟩ : ∃ zz, u3.alloc (.cells (mvA (tickM ri)) 44) = zz := ⟨_, rfl⟩; obtain ⟨c4, Z4⟩ := Bk.new (bs := mvA (tickM ri)) (T := 44) A3 hu4; have A4 := A3.go c4; have B4 := B3.go c4; have Y4 := Y3.go c4; obtain ⟨g10, hg10⟩ : ∃ g10, u3.heap.size = g10 := ⟨_, rfl⟩; rw [hg10] at Z4; have HN4 : Hid (u3.alloc (.cells (mvA (tickM ri)) 44) = u4 ∧ u3.heap.size = g10) := ⟨hu4, hg10⟩; have HY4 : Hid (u4.heap[g8]? = some (.cells (mvA (tickM ri)) 44 (0, 0)) ∧ u4.heap[g10]? = some (.cells (mvA (tickM ri)) 44 (0, 0))) := ⟨Y4.at_, Z4.at_⟩; have HA4 : Hid (Al W0 W1 u4 R q cs (tickR ri) (tickR ri)) := A4; have HB4 : Hid (Bk u4 R q b5 (clA x) 48) := B4; clear hu4 hg10 c4 rb3 tb A2 A3 B2 B3 Y2 Y3 Y4 Z4 A4 B4)
        | (have X' := HN4; refine wpList_new rfl rfl 44 10 (.tmp 62) rfl rfl rfl rfl (mvA mv0) (mvA (tickM ri)) (zeroMove _) rfl rfl infoMove rfl (mvA_one _) ?_; rw [HN4.out.1, HN4.out.2]; clear HN4)
        | (have X' := HY4; refine wpList_load_at rfl 44 (.tmp 8) rfl ⟨g8, 0, none⟩ rfl (mvA (tickM ri)) (mv_all HY4.out.1) ?_)
        | (have X' := HY4; refine wpList_load_at rfl 44 (.tmp 10) rfl ⟨g10, 0, none⟩ rfl (mvA (tickM ri)) (mv_all HY4.out.2) ?_)
        | (have X' := HY4; refine wpList_neq_agg (by kernel_rfl) 44 _ _ rfl guardMv (mvA (tickM ri)) (mvA (tickM ri)) true rfl rfl (eqMv_same _ _) ?_))
      go_roundw
      case rel => exact ⟨i + 1, by go_num, by omega, by rw [HRI.out]; exact HA4.out, HB4.out⟩
      case measure => simp [intOf]; omega
    · have h3 : ¬ (i : Int) < 1 + (pn : Int) := by omega
      obtain rfl : i = 1 + pn := by omega
      have cS := alike18 hal
      have HAL : Hid (Al W0 W1 wr R q cs (manyT (1 + pn) r) (manyT (1 + pn) r)) := hal
      clear hal hbk hi hlt
      go_wp2_with (first
        | (go_at_call 34; refine (cN _).mono ?_; rintro e yw ⟨rfl, hyw⟩; rw [hyw]; clear hyw)
        | (have X' := cS; go_at_call 10; refine cS.mono ?_; clear cS; rintro e w9 ⟨z9, rfl, rfl, b9⟩; have HE := HAL.out.go b9; clear b9))
      go_ret
      exact ⟨_, rfl, rfl, by rw [HDO.out, HPN.out]; exact HE⟩
set_option maxRecDepth 100000 in
set_option maxHeartbeats 4000000 in
theorem do_tick4 {W0 W1 w : World} {R : Wh} {q : Nat} {cs : Array Value} {r : Rb} (h : Al W0 W1 w R q cs r r) {n : Int} (h0 : 0 ≤ n) (hn : n ≤ 999999999000) (ok : OkR n r) (x : Cl)  (hk : place x.kd 8 = 4) : Calls Tryz.prog 11 #[.pointer (some ⟨R.p, 0, none⟩), .pointer (some ⟨q, 0, none⟩), .agg (clA x)] w fun e w' => ∃ z, e = .returned z ∧ (z = .bool true ∧ Al W0 W1 w' R q cs (doR R r x) (doR R r x)) := by
  have HDO : Hid (doR R r x = manyT (1 + (place x.n 9).toNat) r) := by
    show doR R r x = _
    unfold doR
    rw [hk]
    rfl
  obtain ⟨w1, hw1⟩ : ∃ z, w.alloc (.cells (clA x) 48) = z := ⟨_, rfl⟩
  obtain ⟨b1, Y1⟩ := Bk.new (bs := clA x) (T := 48) h hw1
  obtain ⟨b5, hb5⟩ : ∃ b5, w.heap.size = b5 := ⟨_, rfl⟩
  rw [hb5] at Y1
  have HW1 : Hid (w.alloc (.cells (clA x) 48) = w1 ∧ w.heap.size = b5) := ⟨hw1, hb5⟩
  have HA1 : Hid (Al W0 W1 w1 R q cs r r) := h.go b1
  have HB1 : Hid (Bk w1 R q b5 (clA x) 48) := Y1
  have HOK : Hid (OkR n r ∧ 0 ≤ n ∧ n ≤ 999999999000) := ⟨ok, h0, hn⟩
  have k0 : w1.cell? ⟨b5, 0, none⟩ = some (.int .i64 x.kd) := cl_cell Y1.at_ 0
  have cK := fun w => place_any x.kd 8 w (by decide) (by decide)
  clear h ok h0 hn hw1 b1 Y1 hb5
  have cN := fun w => place_any x.n 9 w (by decide) (by decide)
  have pN := place_bd x.n 9 (by decide)
  obtain ⟨pn, hpn⟩ : ∃ pn : Nat, place x.n 9 = (pn : Int) := ⟨(place x.n 9).toNat, by omega⟩
  have HPN : Hid ((place x.n 9).toNat = pn) := by show _ = _; omega
  rw [hpn] at cN pN
  clear hpn
  have HN9 : Hid (pn ≤ 8) := by show _ ≤ _; omega
  rw [hk] at cK
  clear hk
  go_enter Tryz.func11, Tryz.ntmps11
  go_wp2_with (first
    | (have X' := HW1; refine wpList_boxAt rfl 48 (.tmp 2) rfl (clA x) rfl ?_; rw [HW1.out.1, HW1.out.2]; clear HW1)
    | (have X' := cK; go_at_call 34; refine (cK _).mono ?_; rintro e yw ⟨rfl, hyw⟩; rw [hyw]; clear hyw cK))
  go_loopw [7] (fun ci wr => ∃ (i : Nat), ci = .int .i64 i ∧ i ≤ 1 + pn ∧ Al W0 W1 wr R q cs (manyT i r) (manyT i r) ∧ Bk wr R q b5 (clA x) 48) (fun ci _ => 1 + pn - (intOf ci).toNat)
  case atStart => exact ⟨0, rfl, Nat.zero_le _, HA1.out, HB1.out⟩
  case round =>
    obtain ⟨i, rfl, hi, hal, hbk⟩ := hrel
    have k1 : wr.cell? ⟨b5, 1, none⟩ = some (.int .i64 x.n) := cl_cell hbk.at_ 1
    by_cases hlt : i < 1 + pn
    · have h3 : (i : Int) < 1 + (pn : Int) := by omega
      have okI : OkR (n + i) (manyT i r) := HOK.out.1.many HOK.out.2.1 i
      obtain ⟨ri, hri⟩ : ∃ ri, manyT i r = ri := ⟨_, rfl⟩
      rw [hri] at okI hal
      have HRI : Hid (manyT (i + 1) r = tickR ri) := by show tickR (manyT i r) = _; rw [hri]
      have cT := tick_any hal.rb (n := n + i) (by have := HOK.out.2.2; have := HN9.out; omega) okI
      have HOI : Hid (OkR (n + i) ri ∧ n + i ≤ 1000000000000) := ⟨okI, by have := HOK.out.2.2; have := HN9.out; omega⟩
      have HAL : Hid (Al W0 W1 wr R q cs ri ri) := hal
      have HBK : Hid (Bk wr R q b5 (clA x) 48) := hbk
      clear hal hbk hri okI
      go_wp2_with (first
        | (go_at_call 34; refine (cN _).mono ?_; rintro e yw ⟨rfl, hyw⟩; rw [hyw]; clear hyw)
        | (have X' := cT; go_at_call 35; refine cT.mono ?_; clear cT; rintro e u1 ⟨rfl, ra, ta⟩; have A1 := HAL.out.left ra ta; have B1 := HBK.out.left ta; obtain ⟨u2, hu2⟩ : ∃ zz, u1.alloc (.cells (mvA (tickM ri)) 44) = zz := ⟨_, rfl⟩; obtain ⟨c2, Y2⟩ := Bk.new (bs := mvA (tickM ri)) (T := 44) A1 hu2; have A2 := A1.go c2; have B2 := B1.go c2; obtain ⟨g8, hg8⟩ : ∃ g8, u1.heap.size = g8 := ⟨_, rfl⟩; rw [hg8] at Y2; have HN2 : Hid (u1.alloc (.cells (mvA (tickM ri)) 44) = u2 ∧ u1.heap.size = g8) := ⟨hu2, hg8⟩; obtain ⟨gn2, cu2, rc2⟩ := A2.rc; have cR := rtick_all rc2 HOI.out.2 HOI.out.1; clear hu2 hg8 c2 ra ta A1 B1 rc2 k1)
        | (have X' := HN2; refine wpList_new rfl rfl 44 8 (.tmp 57) rfl rfl rfl rfl (mvA mv0) (mvA (tickM ri)) (zeroMove _) rfl rfl infoMove rfl (mvA_one _) ?_; rw [HN2.out.1, HN2.out.2]; clear HN2)
        | (have X' := cR; go_at_call 36; refine cR.mono ?_; clear cR; rintro e u3 ⟨rfl, rb3, tb⟩; have A3 := A2.right rb3 tb; have B3 := B2.right tb; have Y3 := Y2.right tb; obtain ⟨u4, hu4⟩ : ∃ zz, u3.alloc (.cells (mvA (tickM ri)) 44) = zz := ⟨_, rfl⟩; obtain ⟨c4, Z4⟩ := Bk.new (bs := mvA (tickM ri)) (T := 44) A3 hu4; have A4 := A3.go c4; have B4 := B3.go c4; have Y4 := Y3.go c4; obtain ⟨g10, hg10⟩ : ∃ g10, u3.heap.size = g10 := ⟨_, rfl⟩; rw [hg10] at Z4; have HN4 : Hid (u3.alloc (.cells (mvA (tickM ri)) 44) = u4 ∧ u3.heap.size = g10) := ⟨hu4, hg10⟩; have HY4 : Hid (u4.heap[g8]? = some (.cells (mvA (tickM ri)) 44 (0, 0)) ∧ u4.heap[g10]? = some (.cells (mvA (tickM ri)) 44 (0, 0))) := ⟨Y4.at_, Z4.at_⟩; have HA4 : Hid (Al W0 W1 u4 R q cs (tickR ri) (tickR ri)) := A4; have HB4 : Hid (Bk u4 R q b5 (clA x) 48) := B4; clear hu4 hg10 c4 rb3 tb A2 A3 B2 B3 Y2 Y3 Y4 Z4 A4 B4)
        | (have X' := HN4; refine wpList_new rfl rfl 44 10 (.tmp 62) rfl rfl rfl rfl (mvA mv0) (mvA (tickM ri)) (zeroMove _) rfl rfl infoMove rfl (mvA_one _) ?_; rw [HN4.out.1, HN4.out.2]; clear HN4)
        | (have X' := HY4; refine wpList_load_at rfl 44 (.tmp 8) rfl ⟨g8, 0, none⟩ rfl (mvA (tickM ri)) (mv_all HY4.out.1) ?_)
        | (have X' := HY4; refine wpList_load_at rfl 44 (.tmp 10) rfl ⟨g10, 0, none⟩ rfl (mvA (tickM ri)) (mv_all HY4.out.2) ?_)
        | (have X' := HY4; refine wpList_neq_agg (by kernel_rfl) 44 _ _ rfl guardMv (mvA (tickM ri)) (mvA (tickM ri)) true rfl rfl (eqMv_same _ _) ?_))
      go_roundw
      case rel => exact ⟨i + 1, by go_num, by omega, by rw [HRI.out]; exact HA4.out, HB4.out⟩
      case measure => simp [intOf]; omega
    · have h3 : ¬ (i : Int) < 1 + (pn : Int) := by omega
      obtain rfl : i = 1 + pn := by omega
      have cS := alike18 hal
      have HAL : Hid (Al W0 W1 wr R q cs (manyT (1 + pn) r) (manyT (1 + pn) r)) := hal
      clear hal hbk hi hlt
      go_wp2_with (first
        | (go_at_call 34; refine (cN _).mono ?_; rintro e yw ⟨rfl, hyw⟩; rw [hyw]; clear hyw)
        | (have X' := cS; go_at_call 10; refine cS.mono ?_; clear cS; rintro e w9 ⟨z9, rfl, rfl, b9⟩; have HE := HAL.out.go b9; clear b9))
      go_ret
      exact ⟨_, rfl, rfl, by rw [HDO.out, HPN.out]; exact HE⟩
set_option maxRecDepth 100000 in
set_option maxHeartbeats 4000000 in
theorem do_tick5 {W0 W1 w : World} {R : Wh} {q : Nat} {cs : Array Value} {r : Rb} (h : Al W0 W1 w R q cs r r) {n : Int} (h0 : 0 ≤ n) (hn : n ≤ 999999999000) (ok : OkR n r) (x : Cl)  (hk : place x.kd 8 = 5) : Calls Tryz.prog 11 #[.pointer (some ⟨R.p, 0, none⟩), .pointer (some ⟨q, 0, none⟩), .agg (clA x)] w fun e w' => ∃ z, e = .returned z ∧ (z = .bool true ∧ Al W0 W1 w' R q cs (doR R r x) (doR R r x)) := by
  have HDO : Hid (doR R r x = manyT (1 + (place x.n 9).toNat) r) := by
    show doR R r x = _
    unfold doR
    rw [hk]
    rfl
  obtain ⟨w1, hw1⟩ : ∃ z, w.alloc (.cells (clA x) 48) = z := ⟨_, rfl⟩
  obtain ⟨b1, Y1⟩ := Bk.new (bs := clA x) (T := 48) h hw1
  obtain ⟨b5, hb5⟩ : ∃ b5, w.heap.size = b5 := ⟨_, rfl⟩
  rw [hb5] at Y1
  have HW1 : Hid (w.alloc (.cells (clA x) 48) = w1 ∧ w.heap.size = b5) := ⟨hw1, hb5⟩
  have HA1 : Hid (Al W0 W1 w1 R q cs r r) := h.go b1
  have HB1 : Hid (Bk w1 R q b5 (clA x) 48) := Y1
  have HOK : Hid (OkR n r ∧ 0 ≤ n ∧ n ≤ 999999999000) := ⟨ok, h0, hn⟩
  have k0 : w1.cell? ⟨b5, 0, none⟩ = some (.int .i64 x.kd) := cl_cell Y1.at_ 0
  have cK := fun w => place_any x.kd 8 w (by decide) (by decide)
  clear h ok h0 hn hw1 b1 Y1 hb5
  have cN := fun w => place_any x.n 9 w (by decide) (by decide)
  have pN := place_bd x.n 9 (by decide)
  obtain ⟨pn, hpn⟩ : ∃ pn : Nat, place x.n 9 = (pn : Int) := ⟨(place x.n 9).toNat, by omega⟩
  have HPN : Hid ((place x.n 9).toNat = pn) := by show _ = _; omega
  rw [hpn] at cN pN
  clear hpn
  have HN9 : Hid (pn ≤ 8) := by show _ ≤ _; omega
  rw [hk] at cK
  clear hk
  go_enter Tryz.func11, Tryz.ntmps11
  go_wp2_with (first
    | (have X' := HW1; refine wpList_boxAt rfl 48 (.tmp 2) rfl (clA x) rfl ?_; rw [HW1.out.1, HW1.out.2]; clear HW1)
    | (have X' := cK; go_at_call 34; refine (cK _).mono ?_; rintro e yw ⟨rfl, hyw⟩; rw [hyw]; clear hyw cK))
  go_loopw [7] (fun ci wr => ∃ (i : Nat), ci = .int .i64 i ∧ i ≤ 1 + pn ∧ Al W0 W1 wr R q cs (manyT i r) (manyT i r) ∧ Bk wr R q b5 (clA x) 48) (fun ci _ => 1 + pn - (intOf ci).toNat)
  case atStart => exact ⟨0, rfl, Nat.zero_le _, HA1.out, HB1.out⟩
  case round =>
    obtain ⟨i, rfl, hi, hal, hbk⟩ := hrel
    have k1 : wr.cell? ⟨b5, 1, none⟩ = some (.int .i64 x.n) := cl_cell hbk.at_ 1
    by_cases hlt : i < 1 + pn
    · have h3 : (i : Int) < 1 + (pn : Int) := by omega
      have okI : OkR (n + i) (manyT i r) := HOK.out.1.many HOK.out.2.1 i
      obtain ⟨ri, hri⟩ : ∃ ri, manyT i r = ri := ⟨_, rfl⟩
      rw [hri] at okI hal
      have HRI : Hid (manyT (i + 1) r = tickR ri) := by show tickR (manyT i r) = _; rw [hri]
      have cT := tick_any hal.rb (n := n + i) (by have := HOK.out.2.2; have := HN9.out; omega) okI
      have HOI : Hid (OkR (n + i) ri ∧ n + i ≤ 1000000000000) := ⟨okI, by have := HOK.out.2.2; have := HN9.out; omega⟩
      have HAL : Hid (Al W0 W1 wr R q cs ri ri) := hal
      have HBK : Hid (Bk wr R q b5 (clA x) 48) := hbk
      clear hal hbk hri okI
      go_wp2_with (first
        | (go_at_call 34; refine (cN _).mono ?_; rintro e yw ⟨rfl, hyw⟩; rw [hyw]; clear hyw)
        | (have X' := cT; go_at_call 35; refine cT.mono ?_; clear cT; rintro e u1 ⟨rfl, ra, ta⟩; have A1 := HAL.out.left ra ta; have B1 := HBK.out.left ta; obtain ⟨u2, hu2⟩ : ∃ zz, u1.alloc (.cells (mvA (tickM ri)) 44) = zz := ⟨_, rfl⟩; obtain ⟨c2, Y2⟩ := Bk.new (bs := mvA (tickM ri)) (T := 44) A1 hu2; have A2 := A1.go c2; have B2 := B1.go c2; obtain ⟨g8, hg8⟩ : ∃ g8, u1.heap.size = g8 := ⟨_, rfl⟩; rw [hg8] at Y2; have HN2 : Hid (u1.alloc (.cells (mvA (tickM ri)) 44) = u2 ∧ u1.heap.size = g8) := ⟨hu2, hg8⟩; obtain ⟨gn2, cu2, rc2⟩ := A2.rc; have cR := rtick_all rc2 HOI.out.2 HOI.out.1; clear hu2 hg8 c2 ra ta A1 B1 rc2 k1)
        | (have X' := HN2; refine wpList_new rfl rfl 44 8 (.tmp 57) rfl rfl rfl rfl (mvA mv0) (mvA (tickM ri)) (zeroMove _) rfl rfl infoMove rfl (mvA_one _) ?_; rw [HN2.out.1, HN2.out.2]; clear HN2)
        | (have X' := cR; go_at_call 36; refine cR.mono ?_; clear cR; rintro e u3 ⟨rfl, rb3, tb⟩; have A3 := A2.right rb3 tb; have B3 := B2.right tb; have Y3 := Y2.right tb; obtain ⟨u4, hu4⟩ : ∃ zz, u3.alloc (.cells (mvA (tickM ri)) 44) = zz := ⟨_, rfl⟩; obtain ⟨c4, Z4⟩ := Bk.new (bs := mvA (tickM ri)) (T := 44) A3 hu4; have A4 := A3.go c4; have B4 := B3.go c4; have Y4 := Y3.go c4; obtain ⟨g10, hg10⟩ : ∃ g10, u3.heap.size = g10 := ⟨_, rfl⟩; rw [hg10] at Z4; have HN4 : Hid (u3.alloc (.cells (mvA (tickM ri)) 44) = u4 ∧ u3.heap.size = g10) := ⟨hu4, hg10⟩; have HY4 : Hid (u4.heap[g8]? = some (.cells (mvA (tickM ri)) 44 (0, 0)) ∧ u4.heap[g10]? = some (.cells (mvA (tickM ri)) 44 (0, 0))) := ⟨Y4.at_, Z4.at_⟩; have HA4 : Hid (Al W0 W1 u4 R q cs (tickR ri) (tickR ri)) := A4; have HB4 : Hid (Bk u4 R q b5 (clA x) 48) := B4; clear hu4 hg10 c4 rb3 tb A2 A3 B2 B3 Y2 Y3 Y4 Z4 A4 B4)
        | (have X' := HN4; refine wpList_new rfl rfl 44 10 (.tmp 62) rfl rfl rfl rfl (mvA mv0) (mvA (tickM ri)) (zeroMove _) rfl rfl infoMove rfl (mvA_one _) ?_; rw [HN4.out.1, HN4.out.2]; clear HN4)
        | (have X' := HY4; refine wpList_load_at rfl 44 (.tmp 8) rfl ⟨g8, 0, none⟩ rfl (mvA (tickM ri)) (mv_all HY4.out.1) ?_)
        | (have X' := HY4; refine wpList_load_at rfl 44 (.tmp 10) rfl ⟨g10, 0, none⟩ rfl (mvA (tickM ri)) (mv_all HY4.out.2) ?_)
        | (have X' := HY4; refine wpList_neq_agg (by kernel_rfl) 44 _ _ rfl guardMv (mvA (tickM ri)) (mvA (tickM ri)) true rfl rfl (eqMv_same _ _) ?_))
      go_roundw
      case rel => exact ⟨i + 1, by go_num, by omega, by rw [HRI.out]; exact HA4.out, HB4.out⟩
      case measure => simp [intOf]; omega
    · have h3 : ¬ (i : Int) < 1 + (pn : Int) := by omega
      obtain rfl : i = 1 + pn := by omega
      have cS := alike18 hal
      have HAL : Hid (Al W0 W1 wr R q cs (manyT (1 + pn) r) (manyT (1 + pn) r)) := hal
      clear hal hbk hi hlt
      go_wp2_with (first
        | (go_at_call 34; refine (cN _).mono ?_; rintro e yw ⟨rfl, hyw⟩; rw [hyw]; clear hyw)
        | (have X' := cS; go_at_call 10; refine cS.mono ?_; clear cS; rintro e w9 ⟨z9, rfl, rfl, b9⟩; have HE := HAL.out.go b9; clear b9))
      go_ret
      exact ⟨_, rfl, rfl, by rw [HDO.out, HPN.out]; exact HE⟩
set_option maxRecDepth 100000 in
set_option maxHeartbeats 4000000 in
theorem do_late {W0 W1 w : World} {R : Wh} {q : Nat} {cs : Array Value} {r : Rb} (h : Al W0 W1 w R q cs r r) {n : Int} (h0 : 0 ≤ n) (hn : n ≤ 999999999000) (ok : OkR n r) (x : Cl)  (hk : place x.kd 8 = 6) : Calls Tryz.prog 11 #[.pointer (some ⟨R.p, 0, none⟩), .pointer (some ⟨q, 0, none⟩), .agg (clA x)] w fun e w' => ∃ z, e = .returned z ∧ (z = .bool true ∧ Al W0 W1 w' R q cs (doR R r x) (doR R r x)) := by
  have HDO : Hid (doR R r x = lateR r (place x.n 40 - 5)) := by
    show doR R r x = _
    unfold doR
    rw [hk]
    rfl
  obtain ⟨w1, hw1⟩ : ∃ z, w.alloc (.cells (clA x) 48) = z := ⟨_, rfl⟩
  obtain ⟨b1, Y1⟩ := Bk.new (bs := clA x) (T := 48) h hw1
  obtain ⟨b5, hb5⟩ : ∃ b5, w.heap.size = b5 := ⟨_, rfl⟩
  rw [hb5] at Y1
  have HW1 : Hid (w.alloc (.cells (clA x) 48) = w1 ∧ w.heap.size = b5) := ⟨hw1, hb5⟩
  have HA1 : Hid (Al W0 W1 w1 R q cs r r) := h.go b1
  have HB1 : Hid (Bk w1 R q b5 (clA x) 48) := Y1
  have HOK : Hid (OkR n r ∧ 0 ≤ n ∧ n ≤ 999999999000) := ⟨ok, h0, hn⟩
  have k0 : w1.cell? ⟨b5, 0, none⟩ = some (.int .i64 x.kd) := cl_cell Y1.at_ 0
  have cK := fun w => place_any x.kd 8 w (by decide) (by decide)
  clear h ok h0 hn hw1 b1 Y1 hb5
  have cN := fun w => place_any x.n 40 w (by decide) (by decide)
  have pN := place_bd x.n 40 (by decide)
  obtain ⟨pn, hpn⟩ : ∃ pn : Int, place x.n 40 = pn := ⟨_, rfl⟩
  have HPN : Hid (place x.n 40 = pn) := hpn
  rw [hpn] at cN pN
  clear hpn
  have k1 := cl_cell HB1.out.at_ 1
  have k1' : w1.cell? ⟨b5, 1, none⟩ = some (.int .i64 x.n) := k1
  clear k1
  have cD := delay_any HA1.out.rb (pn - 5) HOK.out.1.la0 HOK.out.1.la1
  rw [hk] at cK
  clear hk
  go_enter Tryz.func11, Tryz.ntmps11
  go_wp2_with (first
    | (have X' := HW1; refine wpList_boxAt rfl 48 (.tmp 2) rfl (clA x) rfl ?_; rw [HW1.out.1, HW1.out.2]; clear HW1)
    | (have X' := cK; go_at_call 34; refine (cK _).mono ?_; rintro e yw ⟨rfl, hyw⟩; rw [hyw]; clear hyw cK)
    | (go_at_call 34; refine (cN _).mono ?_; rintro e yw ⟨rfl, hyw⟩; rw [hyw]; clear hyw)
    | (have X' := cD; go_at_call 37; refine cD.mono ?_; clear cD; rintro e u1 ⟨rfl, ra, ta⟩; have A1 := HA1.out.left ra (Tn.only ta); have B1 := HB1.out.left (Tn.only ta); have k2 : u1.cell? ⟨b5, 1, none⟩ = some (.int .i64 x.n) := cl_cell B1.at_ 1; obtain ⟨gn2, cu2, rc2⟩ := A1.rc; have cR := rlate_all rc2 HOK.out.1 (pn - 5); clear ra ta B1 rc2 k1')
    | (have X' := cR; go_at_call 38; refine cR.mono ?_; clear cR; rintro e u3 ⟨rfl, rb3, tb⟩; have A3 := A1.right rb3 tb; have cS := alike18 A3; have HA3 : Hid (Al W0 W1 u3 R q cs (lateR r (pn - 5)) (lateR r (pn - 5))) := A3; clear rb3 tb A1 A3 k2)
    | (have X' := cS; go_at_call 10; refine cS.mono ?_; clear cS; rintro e w9 ⟨z9, rfl, rfl, b9⟩; have HE := HA3.out.go b9; clear b9))
  go_ret
  exact ⟨_, rfl, rfl, by rw [HDO.out, HPN.out]; exact HE⟩
set_option maxRecDepth 100000 in
set_option maxHeartbeats 4000000 in
theorem do_carry {W0 W1 w : World} {R : Wh} {q : Nat} {cs : Array Value} {r : Rb} (h : Al W0 W1 w R q cs r r) {n : Int} (h0 : 0 ≤ n) (hn : n ≤ 999999999000) (ok : OkR n r) (x : Cl)  (hk : place x.kd 8 = 7) : Calls Tryz.prog 11 #[.pointer (some ⟨R.p, 0, none⟩), .pointer (some ⟨q, 0, none⟩), .agg (clA x)] w fun e w' => ∃ z, e = .returned z ∧ (z = .bool true ∧ Al W0 W1 w' R q cs (doR R r x) (doR R r x)) := by
  have HDO : Hid (doR R r x = carryR r x.n) := by
    show doR R r x = _
    unfold doR
    rw [hk]
    rfl
  obtain ⟨w1, hw1⟩ : ∃ z, w.alloc (.cells (clA x) 48) = z := ⟨_, rfl⟩
  obtain ⟨b1, Y1⟩ := Bk.new (bs := clA x) (T := 48) h hw1
  obtain ⟨b5, hb5⟩ : ∃ b5, w.heap.size = b5 := ⟨_, rfl⟩
  rw [hb5] at Y1
  have HW1 : Hid (w.alloc (.cells (clA x) 48) = w1 ∧ w.heap.size = b5) := ⟨hw1, hb5⟩
  have HA1 : Hid (Al W0 W1 w1 R q cs r r) := h.go b1
  have HB1 : Hid (Bk w1 R q b5 (clA x) 48) := Y1
  have HOK : Hid (OkR n r ∧ 0 ≤ n ∧ n ≤ 999999999000) := ⟨ok, h0, hn⟩
  have k0 : w1.cell? ⟨b5, 0, none⟩ = some (.int .i64 x.kd) := cl_cell Y1.at_ 0
  have cK := fun w => place_any x.kd 8 w (by decide) (by decide)
  clear h ok h0 hn hw1 b1 Y1 hb5
  have k1 := cl_cell HB1.out.at_ 1
  have k1' : w1.cell? ⟨b5, 1, none⟩ = some (.int .i64 x.n) := k1
  clear k1
  have cD := carry_any HA1.out.rb x.n
  rw [hk] at cK
  clear hk
  go_enter Tryz.func11, Tryz.ntmps11
  go_wp2_with (first
    | (have X' := HW1; refine wpList_boxAt rfl 48 (.tmp 2) rfl (clA x) rfl ?_; rw [HW1.out.1, HW1.out.2]; clear HW1)
    | (have X' := cK; go_at_call 34; refine (cK _).mono ?_; rintro e yw ⟨rfl, hyw⟩; rw [hyw]; clear hyw cK)
    | (have X' := cD; go_at_call 39; refine cD.mono ?_; clear cD; rintro e u1 ⟨rfl, ra, ta⟩; have A1 := HA1.out.left ra (Tn.only ta); have B1 := HB1.out.left (Tn.only ta); have k2 : u1.cell? ⟨b5, 1, none⟩ = some (.int .i64 x.n) := cl_cell B1.at_ 1; obtain ⟨gn2, cu2, rc2⟩ := A1.rc; have k20 : u1.cell? ⟨q, 20, none⟩ = some (.int .i64 r.ld) := (XAt.of rc2).ld; have f20 := (XAt.of rc2).froz 20; obtain ⟨u3, hu3⟩ : ∃ z, u1.setCell ⟨q, 20, none⟩ (.int .i64 x.n) = z := ⟨_, rfl⟩; have HA3 : Hid (Al W0 W1 u3 R q cs (carryR r x.n) (carryR r x.n)) := (by have e : u1.setCells q 20 [.int .i64 x.n] = u3 := hu3; rw [← e]; exact A1.right ⟨gn2, cu2, RcAt.x (by exact (XAt.of rc2).put 4 _ (rx_ld _ x.n)) rc2.run_⟩ (Xn.only (Only.setCells _ _ _ _))); have cS := alike18 HA3.out; clear ra ta B1 rc2 k1' A1)
    | (have X' := cS; go_at_call 10; refine cS.mono ?_; clear cS; rintro e w9 ⟨z9, rfl, rfl, b9⟩; have HE := HA3.out.go b9; clear b9))
  go_ret
  exact ⟨_, rfl, rfl, by rw [HDO.out]; exact HE⟩
set_option maxRecDepth 100000 in
set_option maxHeartbeats 4000000 in
theorem do_hear0 {W0 W1 w : World} {R : Wh} {q : Nat} {cs : Array Value} {r : Rb} (h : Al W0 W1 w R q cs r r) {n : Int} (h0 : 0 ≤ n) (hn : n ≤ 999999999000) (ok : OkR n r) (x : Cl) (hc : Ch W0 cs R) (hk : place x.kd 8 = 0) : Calls Tryz.prog 11 #[.pointer (some ⟨R.p, 0, none⟩), .pointer (some ⟨q, 0, none⟩), .agg (clA x)] w fun e w' => ∃ z, e = .returned z ∧ (z = .bool true ∧ Al W0 W1 w' R q cs (doR R r x) (doR R r x)) := by
  have HDO : Hid (doR R r x = hearR R r x.te) := by
    show doR R r x = _
    unfold doR
    rw [hk]
    rfl
  obtain ⟨w1, hw1⟩ : ∃ z, w.alloc (.cells (clA x) 48) = z := ⟨_, rfl⟩
  obtain ⟨b1, Y1⟩ := Bk.new (bs := clA x) (T := 48) h hw1
  obtain ⟨b5, hb5⟩ : ∃ b5, w.heap.size = b5 := ⟨_, rfl⟩
  rw [hb5] at Y1
  have HW1 : Hid (w.alloc (.cells (clA x) 48) = w1 ∧ w.heap.size = b5) := ⟨hw1, hb5⟩
  have HA1 : Hid (Al W0 W1 w1 R q cs r r) := h.go b1
  have HB1 : Hid (Bk w1 R q b5 (clA x) 48) := Y1
  have HOK : Hid (OkR n r ∧ 0 ≤ n ∧ n ≤ 999999999000) := ⟨ok, h0, hn⟩
  have k0 : w1.cell? ⟨b5, 0, none⟩ = some (.int .i64 x.kd) := cl_cell Y1.at_ 0
  have cK := fun w => place_any x.kd 8 w (by decide) (by decide)
  have HC : Hid (Ch W0 cs R) := hc
  clear hc
  clear h ok h0 hn hw1 b1 Y1 hb5
  have cD := hear_any HA1.out.rb x.te (show n ≤ 1000000000000 by have := HOK.out.2.2; omega) HOK.out.1
  rw [hk] at cK
  clear hk
  go_enter Tryz.func11, Tryz.ntmps11
  go_wp2_with (first
    | (have X' := HW1; refine wpList_boxAt rfl 48 (.tmp 2) rfl (clA x) rfl ?_; rw [HW1.out.1, HW1.out.2]; clear HW1)
    | (have X' := cK; go_at_call 34; refine (cK _).mono ?_; rintro e yw ⟨rfl, hyw⟩; rw [hyw]; clear hyw cK)
    | (have X' := cR; refine wpList_load_at rfl 46 (.tmp 28) rfl ⟨b5, 2, none⟩ rfl (tlA x.te) (cl_tele B2.out.at_) ?_)
    | (have X' := cD; refine wpList_load_at rfl 46 (.tmp 21) rfl ⟨b5, 2, none⟩ rfl (tlA x.te) (cl_tele HB1.out.at_) ?_)
    | (have X' := cD; go_at_call 26; refine cD.mono ?_; clear cD; rintro e u1 ⟨v1, rfl, la, ra, ta⟩; have A1 := HA1.out.left ra ta; have B2 : Hid (Bk u1 R q b5 (clA x) 48) := HB1.out.left ta; obtain ⟨gn2, cu2, rc2⟩ := A1.rc; have cR := rhear_all HC.out A1.bel rc2 (show n ≤ 1000000000000 by have := HOK.out.2.2; omega) HOK.out.1 x.te; clear ra ta rc2)
    | (have X' := cR; go_at_call 40; refine cR.mono ?_; clear cR; rintro e u3 ⟨v2, rfl, lb, rb3, tb⟩; have A3 := A1.right rb3 tb; have la3 := la.right tb HA1.out.qlt; have cM := same_ls la3 lb; have HA3 : Hid (Al W0 W1 u3 R q cs (hearR R r x.te) (hearR R r x.te)) := A3; clear rb3 tb A1 A3 la lb la3)
    | (have X' := cM; go_at_call 31; refine cM.mono ?_; clear cM; rintro e u4 ⟨z4, rfl, rfl, b4⟩; have HA4 : Hid (Al W0 W1 u4 R q cs (hearR R r x.te) (hearR R r x.te)) := HA3.out.go b4; have cS := alike18 HA4.out; clear b4)
    | (have X' := cS; go_at_call 10; refine cS.mono ?_; clear cS; rintro e w9 ⟨z9, rfl, rfl, b9⟩; have HE := HA4.out.go b9; clear b9))
  go_ret
  exact ⟨_, rfl, rfl, by rw [HDO.out]; exact HE⟩
set_option maxRecDepth 100000 in
set_option maxHeartbeats 4000000 in
theorem do_hear1 {W0 W1 w : World} {R : Wh} {q : Nat} {cs : Array Value} {r : Rb} (h : Al W0 W1 w R q cs r r) {n : Int} (h0 : 0 ≤ n) (hn : n ≤ 999999999000) (ok : OkR n r) (x : Cl) (hc : Ch W0 cs R) (hk : place x.kd 8 = 1) : Calls Tryz.prog 11 #[.pointer (some ⟨R.p, 0, none⟩), .pointer (some ⟨q, 0, none⟩), .agg (clA x)] w fun e w' => ∃ z, e = .returned z ∧ (z = .bool true ∧ Al W0 W1 w' R q cs (doR R r x) (doR R r x)) := by
  have HDO : Hid (doR R r x = hearR R r x.te) := by
    show doR R r x = _
    unfold doR
    rw [hk]
    rfl
  obtain ⟨w1, hw1⟩ : ∃ z, w.alloc (.cells (clA x) 48) = z := ⟨_, rfl⟩
  obtain ⟨b1, Y1⟩ := Bk.new (bs := clA x) (T := 48) h hw1
  obtain ⟨b5, hb5⟩ : ∃ b5, w.heap.size = b5 := ⟨_, rfl⟩
  rw [hb5] at Y1
  have HW1 : Hid (w.alloc (.cells (clA x) 48) = w1 ∧ w.heap.size = b5) := ⟨hw1, hb5⟩
  have HA1 : Hid (Al W0 W1 w1 R q cs r r) := h.go b1
  have HB1 : Hid (Bk w1 R q b5 (clA x) 48) := Y1
  have HOK : Hid (OkR n r ∧ 0 ≤ n ∧ n ≤ 999999999000) := ⟨ok, h0, hn⟩
  have k0 : w1.cell? ⟨b5, 0, none⟩ = some (.int .i64 x.kd) := cl_cell Y1.at_ 0
  have cK := fun w => place_any x.kd 8 w (by decide) (by decide)
  have HC : Hid (Ch W0 cs R) := hc
  clear hc
  clear h ok h0 hn hw1 b1 Y1 hb5
  have cD := hear_any HA1.out.rb x.te (show n ≤ 1000000000000 by have := HOK.out.2.2; omega) HOK.out.1
  rw [hk] at cK
  clear hk
  go_enter Tryz.func11, Tryz.ntmps11
  go_wp2_with (first
    | (have X' := HW1; refine wpList_boxAt rfl 48 (.tmp 2) rfl (clA x) rfl ?_; rw [HW1.out.1, HW1.out.2]; clear HW1)
    | (have X' := cK; go_at_call 34; refine (cK _).mono ?_; rintro e yw ⟨rfl, hyw⟩; rw [hyw]; clear hyw cK)
    | (have X' := cR; refine wpList_load_at rfl 46 (.tmp 28) rfl ⟨b5, 2, none⟩ rfl (tlA x.te) (cl_tele B2.out.at_) ?_)
    | (have X' := cD; refine wpList_load_at rfl 46 (.tmp 21) rfl ⟨b5, 2, none⟩ rfl (tlA x.te) (cl_tele HB1.out.at_) ?_)
    | (have X' := cD; go_at_call 26; refine cD.mono ?_; clear cD; rintro e u1 ⟨v1, rfl, la, ra, ta⟩; have A1 := HA1.out.left ra ta; have B2 : Hid (Bk u1 R q b5 (clA x) 48) := HB1.out.left ta; obtain ⟨gn2, cu2, rc2⟩ := A1.rc; have cR := rhear_all HC.out A1.bel rc2 (show n ≤ 1000000000000 by have := HOK.out.2.2; omega) HOK.out.1 x.te; clear ra ta rc2)
    | (have X' := cR; go_at_call 40; refine cR.mono ?_; clear cR; rintro e u3 ⟨v2, rfl, lb, rb3, tb⟩; have A3 := A1.right rb3 tb; have la3 := la.right tb HA1.out.qlt; have cM := same_ls la3 lb; have HA3 : Hid (Al W0 W1 u3 R q cs (hearR R r x.te) (hearR R r x.te)) := A3; clear rb3 tb A1 A3 la lb la3)
    | (have X' := cM; go_at_call 31; refine cM.mono ?_; clear cM; rintro e u4 ⟨z4, rfl, rfl, b4⟩; have HA4 : Hid (Al W0 W1 u4 R q cs (hearR R r x.te) (hearR R r x.te)) := HA3.out.go b4; have cS := alike18 HA4.out; clear b4)
    | (have X' := cS; go_at_call 10; refine cS.mono ?_; clear cS; rintro e w9 ⟨z9, rfl, rfl, b9⟩; have HE := HA4.out.go b9; clear b9))
  go_ret
  exact ⟨_, rfl, rfl, by rw [HDO.out]; exact HE⟩
set_option maxRecDepth 100000 in
set_option maxHeartbeats 4000000 in
theorem do_hear2 {W0 W1 w : World} {R : Wh} {q : Nat} {cs : Array Value} {r : Rb} (h : Al W0 W1 w R q cs r r) {n : Int} (h0 : 0 ≤ n) (hn : n ≤ 999999999000) (ok : OkR n r) (x : Cl) (hc : Ch W0 cs R) (hk : place x.kd 8 = 2) : Calls Tryz.prog 11 #[.pointer (some ⟨R.p, 0, none⟩), .pointer (some ⟨q, 0, none⟩), .agg (clA x)] w fun e w' => ∃ z, e = .returned z ∧ (z = .bool true ∧ Al W0 W1 w' R q cs (doR R r x) (doR R r x)) := by
  have HDO : Hid (doR R r x = hearR R r x.te) := by
    show doR R r x = _
    unfold doR
    rw [hk]
    rfl
  obtain ⟨w1, hw1⟩ : ∃ z, w.alloc (.cells (clA x) 48) = z := ⟨_, rfl⟩
  obtain ⟨b1, Y1⟩ := Bk.new (bs := clA x) (T := 48) h hw1
  obtain ⟨b5, hb5⟩ : ∃ b5, w.heap.size = b5 := ⟨_, rfl⟩
  rw [hb5] at Y1
  have HW1 : Hid (w.alloc (.cells (clA x) 48) = w1 ∧ w.heap.size = b5) := ⟨hw1, hb5⟩
  have HA1 : Hid (Al W0 W1 w1 R q cs r r) := h.go b1
  have HB1 : Hid (Bk w1 R q b5 (clA x) 48) := Y1
  have HOK : Hid (OkR n r ∧ 0 ≤ n ∧ n ≤ 999999999000) := ⟨ok, h0, hn⟩
  have k0 : w1.cell? ⟨b5, 0, none⟩ = some (.int .i64 x.kd) := cl_cell Y1.at_ 0
  have cK := fun w => place_any x.kd 8 w (by decide) (by decide)
  have HC : Hid (Ch W0 cs R) := hc
  clear hc
  clear h ok h0 hn hw1 b1 Y1 hb5
  have cD := hear_any HA1.out.rb x.te (show n ≤ 1000000000000 by have := HOK.out.2.2; omega) HOK.out.1
  rw [hk] at cK
  clear hk
  go_enter Tryz.func11, Tryz.ntmps11
  go_wp2_with (first
    | (have X' := HW1; refine wpList_boxAt rfl 48 (.tmp 2) rfl (clA x) rfl ?_; rw [HW1.out.1, HW1.out.2]; clear HW1)
    | (have X' := cK; go_at_call 34; refine (cK _).mono ?_; rintro e yw ⟨rfl, hyw⟩; rw [hyw]; clear hyw cK)
    | (have X' := cR; refine wpList_load_at rfl 46 (.tmp 28) rfl ⟨b5, 2, none⟩ rfl (tlA x.te) (cl_tele B2.out.at_) ?_)
    | (have X' := cD; refine wpList_load_at rfl 46 (.tmp 21) rfl ⟨b5, 2, none⟩ rfl (tlA x.te) (cl_tele HB1.out.at_) ?_)
    | (have X' := cD; go_at_call 26; refine cD.mono ?_; clear cD; rintro e u1 ⟨v1, rfl, la, ra, ta⟩; have A1 := HA1.out.left ra ta; have B2 : Hid (Bk u1 R q b5 (clA x) 48) := HB1.out.left ta; obtain ⟨gn2, cu2, rc2⟩ := A1.rc; have cR := rhear_all HC.out A1.bel rc2 (show n ≤ 1000000000000 by have := HOK.out.2.2; omega) HOK.out.1 x.te; clear ra ta rc2)
    | (have X' := cR; go_at_call 40; refine cR.mono ?_; clear cR; rintro e u3 ⟨v2, rfl, lb, rb3, tb⟩; have A3 := A1.right rb3 tb; have la3 := la.right tb HA1.out.qlt; have cM := same_ls la3 lb; have HA3 : Hid (Al W0 W1 u3 R q cs (hearR R r x.te) (hearR R r x.te)) := A3; clear rb3 tb A1 A3 la lb la3)
    | (have X' := cM; go_at_call 31; refine cM.mono ?_; clear cM; rintro e u4 ⟨z4, rfl, rfl, b4⟩; have HA4 : Hid (Al W0 W1 u4 R q cs (hearR R r x.te) (hearR R r x.te)) := HA3.out.go b4; have cS := alike18 HA4.out; clear b4)
    | (have X' := cS; go_at_call 10; refine cS.mono ?_; clear cS; rintro e w9 ⟨z9, rfl, rfl, b9⟩; have HE := HA4.out.go b9; clear b9))
  go_ret
  exact ⟨_, rfl, rfl, by rw [HDO.out]; exact HE⟩
theorem do_any {W0 W1 w : World} {R : Wh} {q : Nat} {cs : Array Value} {r : Rb} (h : Al W0 W1 w R q cs r r) {n : Int} (h0 : 0 ≤ n) (hn : n ≤ 999999999000) (ok : OkR n r) (x : Cl) (hc : Ch W0 cs R) : Calls Tryz.prog 11 #[.pointer (some ⟨R.p, 0, none⟩), .pointer (some ⟨q, 0, none⟩), .agg (clA x)] w fun e w' => ∃ z, e = .returned z ∧ (z = .bool true ∧ Al W0 W1 w' R q cs (doR R r x) (doR R r x)) := by
  have pK := place_bd x.kd 8 (by decide)
  have hd : place x.kd 8 = 0 ∨ place x.kd 8 = 1 ∨ place x.kd 8 = 2 ∨ place x.kd 8 = 3 ∨ place x.kd 8 = 4 ∨ place x.kd 8 = 5 ∨ place x.kd 8 = 6 ∨ place x.kd 8 = 7 := by omega
  rcases hd with k | k | k | k | k | k | k | k
  · exact do_hear0 h h0 hn ok x hc k
  · exact do_hear1 h h0 hn ok x hc k
  · exact do_hear2 h h0 hn ok x hc k
  · exact do_tick3 h h0 hn ok x k
  · exact do_tick4 h h0 hn ok x k
  · exact do_tick5 h h0 hn ok x k
  · exact do_late h h0 hn ok x k
  · exact do_carry h h0 hn ok x k
end Go.Proofs.YtedhoghleelhfaaGreat.Rob
