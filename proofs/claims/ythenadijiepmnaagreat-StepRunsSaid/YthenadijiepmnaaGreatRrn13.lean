/- The document's own Run of a step. -/
import Derived.Test.YthenadijiepmnaaGreatPlo13
import Derived.Test.YthenadijiepmnaaGreatRse10
import Derived.Deep.CutBlock
import Derived.Deep.CutRange
namespace Go.Proofs.YthenadijiepmnaaGreat
open Go.RowKit

/-- Behind an instruction: it was done, or it fails. -/
def Sw13 (ask : Bool) (mr mw : Nat → Bool) (gs : List Int) (i : Ins) (s : Sst) (g1 g2 gc gr gd gw : Nat) (W : World) (v : Value) (wx : World) : Prop :=
  (∃ s2, v = .int .i64 0 ∧ stepI ask mr mw gs i s = .ok s2 ∧ RE wx g1 g2 gc gr gd gw mr mw s2 ∧ Fr (RT gc gr gd gw) W wx) ∨ ∃ e : Nat, v = .int .i64 (e : Int) ∧ 0 < e ∧ stepI ask mr mw gs i s = .error e ∧ Fr (RT gc gr gd gw) W wx
set_option maxRecDepth 100000 in
set_option maxHeartbeats 16000000 in
theorem refRun13_any (w : World) (x : StI w) (hx : x.Few) (himm : ∀ i ∈ x.code, I64 i.x) {r : Nat → Int} (hr : ∀ i, i < 4 → I64 (r i)) {g : Nat} {m : Mp} (hR : RM w g m) (hm : ∀ k v, m k = some v → I64 v) (ask : Bool) :
    Calls Tryz.prog 14 #[x.agg, x.args, .agg #[.int .i64 (r 0), .int .i64 (r 1), .int .i64 (r 2), .int .i64 (r 3)], .pointer (some ⟨g, 0, none⟩), .bool ask] w (OutC (runS x.right ask (keysOf (chosen false x.gs x.foot)) (keysOf (chosen true x.gs x.foot)) x.gs x.code r m) w) := by
  have HRt := Lib.hid (fun W (h : Fr No w W) => refRight13_any W (x.since h) hx)
  change Hid (∀ W (_ : Fr No w W), Calls Tryz.prog 32 #[x.agg, x.args] W (Has W x.right)) at HRt
  obtain ⟨q, hq⟩ : ∃ q, w.heap.size = q := ⟨_, rfl⟩
  obtain ⟨Z, hZ⟩ : ∃ Z : Array Value, Z = #[.int .i64 0, .int .i64 0, .int .i64 0, .int .i64 0, .int .i64 0, .int .i64 0, .slice none 0 0, .slice none 0 0, .slice none 0 0] := ⟨_, rfl⟩
  have hZ9 : Hid (Z.size = 9) := Lib.hid (by rw [hZ]; rfl)
  have f0 : Fr No w (((w.alloc (.cells #[.slice x.cA x.code.length x.cc, .slice x.fA x.foot.length x.fc] 25)).alloc (.cells #[.int .i64 (r 0), .int .i64 (r 1), .int .i64 (r 2), .int .i64 (r 3)] 27)).alloc (.cells Z 39)) := (((Fr.refl _ _).alloc _).alloc _).alloc _
  have bA := ((Bk.made w 25 #[.slice x.cA x.code.length x.cc, .slice x.fA x.foot.length x.fc]).alloc (.cells #[.int .i64 (r 0), .int .i64 (r 1), .int .i64 (r 2), .int .i64 (r 3)] 27)).alloc (.cells Z 39)
  have bB := (Bk.made (w.alloc (.cells #[.slice x.cA x.code.length x.cc, .slice x.fA x.foot.length x.fc] 25)) 27 #[.int .i64 (r 0), .int .i64 (r 1), .int .i64 (r 2), .int .i64 (r 3)]).alloc (.cells Z 39)
  have bZ := Bk.made ((w.alloc (.cells #[.slice x.cA x.code.length x.cc, .slice x.fA x.foot.length x.fc] 25)).alloc (.cells #[.int .i64 (r 0), .int .i64 (r 1), .int .i64 (r 2), .int .i64 (r 3)] 27)) 39 Z
  simp only [World.size_alloc, hq] at bA bB bZ
  obtain ⟨W0, hW0⟩ : ∃ W0, ((w.alloc (.cells #[.slice x.cA x.code.length x.cc, .slice x.fA x.foot.length x.fc] 25)).alloc (.cells #[.int .i64 (r 0), .int .i64 (r 1), .int .i64 (r 2), .int .i64 (r 3)] 27)).alloc (.cells Z 39) = W0 := ⟨_, rfl⟩
  rw [hW0] at f0 bA bB bZ
  have HA := Lib.hid (fun (T : Nat → Prop) W (h : Fr T W0 W) (hT : ¬ T q) => bA.fr h hT)
  have HB := Lib.hid (fun (T : Nat → Prop) W (h : Fr T W0 W) (hT : ¬ T (q + 1)) => bB.fr h hT)
  have HZ' := Lib.hid (fun (T : Nat → Prop) W (h : Fr T W0 W) (hT : ¬ T (q + 1 + 1)) => bZ.fr h hT)
  have HA0 := Lib.hid (fun W (h : Fr No W0 W) => bA.fr h (fun e => e))
  have HB0 := Lib.hid (fun W (h : Fr No W0 W) => bB.fr h (fun e => e))
  have HZ := Lib.hid (fun W (h : Fr No W0 W) => bZ.fr h (fun e => e))
  have HF0 := Lib.hid f0
  have Hq := Lib.hid hq
  have hq0 : q + 1 + 1 < W0.heap.size := bZ.lt
  cases hrt : x.right
  · rw [hrt] at HRt
    unfold runS
    simp only [Bool.false_eq_true, if_false]
    unfold StI.agg StI.args at HRt ⊢
    clear himm hr hrt bA bB bZ f0 hR hm HA HB HZ'
    generalize x.code.length = nc at *
    generalize x.foot.length = nf at *
    generalize x.gs.length = ng at *
    go_enter Tryz.func14, Tryz.ntmps14
    go_wp2_with fail
    rw [← hZ, hW0]
    refine (HRt.out _ HF0.out).mono ?_
    rintro e w1 ⟨rfl, f1⟩
    have F1 := Lib.hid (HF0.out.trans' f1 (fun _ _ e => e))
    have ub := HB0.out _ (f1)
    have b0 := ub.cell 0
    have b1 := ub.cell 1
    have b2 := ub.cell 2
    have b3 := ub.cell 3
    simp only [List.getElem?_toArray, List.getElem?_cons_succ, List.getElem?_cons_zero] at b0 b1 b2 b3
    clear ub
    have cz := HZ.out _ (f1)
    have hst := st_out hZ9.out cz (c := 1) (a := 0) (r0 := r 0) (r1 := r 1) (r2 := r 2) (r3 := r 3) (v1 := .slice none 0 0) (v2 := .slice none 0 0) (v3 := .slice none 0 0) rfl rfl rfl
    have hbF := bk_row12 cz #[.int .i64 1, .int .i64 0, .int .i64 (r 0), .int .i64 (r 1), .int .i64 (r 2), .int .i64 (r 3), .slice none 0 0, .slice none 0 0, .slice none 0 0]
    have fF := fr_row12 F1.out (g := q + 1 + 1) (.inr (by have := Hq.out; omega)) #[.int .i64 1, .int .i64 0, .int .i64 (r 0), .int .i64 (r 1), .int .i64 (r 2), .int .i64 (r 3), .slice none 0 0, .slice none 0 0, .slice none 0 0]
    obtain ⟨W3, hW3⟩ : ∃ W3, W3 = World.setRow (w1) (q + 1 + 1) #[.int .i64 1, .int .i64 0, .int .i64 (r 0), .int .i64 (r 1), .int .i64 (r 2), .int .i64 (r 3), .slice none 0 0, .slice none 0 0, .slice none 0 0] := ⟨_, rfl⟩
    rw [← hW3] at hst hbF fF
    have Hst := Lib.hid hst
    have Hld := Lib.hid (ld_out hbF)
    have HfF := Lib.hid fF
    clear cz hst hbF fF hW3
    clear f1 hW0 hZ F1
    go_wp2_with ((with_reducible refine wpl_st ?_ ?_ ?_ Hst.out ?_); (· rfl); (· rfl); (· rfl); simp only [Act.put])
    exact bodyPost_ret (cell_result Tryz.results14 Hld.out rfl) rfl (OutC.fail 1 0 r HfF.out)
  · rw [hrt] at HRt
    have hrb : footRight x.foot x.gs = true ∧ (x.code = [] ∨ progOk x.code x.gs.length = true) := by
      have h := hrt
      unfold StI.right rightB at h
      simp only [Bool.and_eq_true, Bool.or_eq_true, decide_eq_true_eq] at h
      exact ⟨h.1, h.2.imp List.eq_nil_of_length_eq_zero id⟩
    have hga : argsOk x.gs = true := by
      have h := hrb.1
      unfold footRight at h
      exact ((Bool.and_eq_true _ _).mp h).1
    have Hins : Hid (∀ k (hk : k < x.code.length), InsOk x.code[k] x.gs.length ∧ I64 x.code[k].x) := Lib.hid (fun k hk => by
      refine ⟨?_, himm _ (List.getElem_mem hk)⟩
      rcases hrb.2 with e | e
      · rw [e] at hk; simp at hk
      · unfold progOk at e
        simp only [Bool.and_eq_true, decide_eq_true_eq, List.all_eq_true] at e
        exact (insOk_iff _ _).1 (e.2.2 _ (List.getElem_mem hk)))
    have HSet := Lib.hid (fun fl W (hW : Fr No w W) => refSet10_any fl x.foot x.gs x.fA x.gA x.foot.length x.fc x.gs.length x.gc W (x.hf.since hW) rfl (x.hg.since hW) rfl hrb.1)
    have HSR := Lib.hid (HSet.out false)
    have HSW := Lib.hid (HSet.out true)
    have HCp := Lib.hid (fun W (hW : Fr No w W) => refCopy13_any g m W (hR.fr hW (fun e => e)))
    have HKy := Lib.hid (fun (a b : Int) (h2 : keyOk a b x.gs.length = true) => show ∃ k : Nat, k < 1000 ∧ keyOf a b x.gs = (k : Int) ∧ ∀ W, Fr No w W → Calls Tryz.prog 34 #[.agg #[.int .i64 a, .int .i64 b], .slice x.gA x.gs.length x.gc] W fun e w' => e = .returned (.int .i64 (k : Int)) ∧ Fr No W w' from by
      obtain ⟨h0, h1⟩ := keyOf_range (l := x.gs) h2 hga
      have he : keyOf a b x.gs = ((keyOf a b x.gs).toNat : Int) := (Int.toNat_of_nonneg h0).symm
      refine ⟨(keyOf a b x.gs).toNat, by omega, he, fun W hW => ?_⟩
      have h := refKey_any a b x.gs x.gA x.gs.length x.gc W (x.hg.since hW) rfl ((keyOk_iff _ _ _).1 h2).2.1 h2 hga
      rw [← he]
      exact h)
    have HXc := Lib.hid (fun (T : Nat → Prop) W (hW : Fr T w W) (hT : ∀ k, k < w.heap.size → ¬ T k) => (x.hc.fr hW (Nat.le_refl _) (fun ad e hne => by
      obtain ⟨ad', e', hb, -⟩ := x.hc hne
      rw [e] at e'
      injection e' with e'
      rw [e']
      exact hT _ hb)))
    have hcl : x.code.length ≤ 8 := by
      rcases hrb.2 with e | e
      · rw [e]; exact Nat.zero_le _
      · unfold progOk at e
        simp only [Bool.and_eq_true, decide_eq_true_eq] at e
        omega
    have hgl : x.gs.length ≤ 3 := by
      have h := hga
      unfold argsOk at h
      simp only [Bool.and_eq_true, decide_eq_true_eq] at h
      exact h.2
    obtain ⟨mr, hmr⟩ : ∃ mr, keysOf (chosen false x.gs x.foot) = mr := ⟨_, rfl⟩
    obtain ⟨mw, hmw⟩ : ∃ mw, keysOf (chosen true x.gs x.foot) = mw := ⟨_, rfl⟩
    rw [hmr] at HSR ⊢
    rw [hmw] at HSW ⊢
    have HrunE : Hid (∀ e k : Nat, runI ask mr mw x.gs x.code 0 ⟨m, r, fun _ => false, fun _ => false⟩ = .error (e, k) → runS true ask mr mw x.gs x.code r m = .fail e k r) := Lib.hid (fun e k h => by
        unfold runS
        rw [if_pos rfl, h])
    have HrunO : Hid (∀ s, runI ask mr mw x.gs x.code 0 ⟨m, r, fun _ => false, fun _ => false⟩ = .ok s → runS true ask mr mw x.gs x.code r m = ⟨0, 0, s.r, plainOf s.rd, plainOf s.wt, chgsOf s.wt s.m⟩) := Lib.hid (fun s h => by
        unfold runS
        rw [if_pos rfl, h])
    obtain ⟨po, hpo⟩ : ∃ po, runS true ask mr mw x.gs x.code r m = po := ⟨_, rfl⟩
    have HPO := Lib.hid hpo
    rw [hpo]
    have hz := zero_set
    unfold StI.agg StI.args at HRt ⊢
    have Hreg := Lib.hid hr
    have Hm0 := Lib.hid hm
    clear HSet hrb hga hmr hmw hpo himm hr hrt bA bB bZ f0 hR hm
    have HLc : Hid (∀ k, k < x.code.length ↔ k < x.code.length) := Lib.hid (fun k => Iff.rfl)
    obtain ⟨nc, hnc⟩ : ∃ nc, x.code.length = nc := ⟨_, rfl⟩
    obtain ⟨ng, hng⟩ : ∃ ng, x.gs.length = ng := ⟨_, rfl⟩
    have Hnc := Lib.hid hnc
    rw [hnc] at HRt HA HA0 hcl hW0 ⊢
    rw [hng] at HRt HSR HSW HKy Hins hgl ⊢
    obtain ⟨cA, hcA⟩ : ∃ cA, x.cA = cA := ⟨_, rfl⟩
    rw [hcA] at HRt HA HA0 HXc hW0 ⊢
    generalize x.foot.length = nf at *
    clear hnc hng HLc hcA
    go_enter Tryz.func14, Tryz.ntmps14
    go_wp2_with fail
    rw [← hZ, hW0]
    refine (HRt.out _ HF0.out).mono ?_
    rintro e w1 ⟨rfl, f1⟩
    have F1 := Lib.hid f1
    clear f1 hW0 hZ HRt
    have ua := HA0.out _ (F1.out)
    have a0 := ua.cell 0
    have a1 := ua.cell 1
    simp only [List.getElem?_toArray, List.getElem?_cons_succ, List.getElem?_cons_zero] at a0 a1
    clear ua
    go_wp2_with fail
    refine wp_region_held_drew (S := fun w' => w'.cell? ⟨q, 1, none⟩ = some (.slice x.fA nf x.fc)) (by kernel_rfl) (a1) (fun hHeld => ?_)
    refine any_take 36 (.pointer (some ⟨q, 1, none⟩)) (i := 0) rfl rfl (by kernel_rfl) (by kernel_rfl) (by kernel_rfl) (fun _ _ _ h => h) (by rfl) (by intro w hSw; (try dsimp only at hSw); go_simp; try with_reducible rfl) (by assumption) ?_
    simp only [Act.put, List.setIfInBounds_toArray, List.set_cons_zero, List.set_cons_succ]
    refine any_take 37 (.slice x.fA nf x.fc) (i := 1) rfl rfl (by kernel_rfl) (by kernel_rfl) (by kernel_rfl) (fun _ _ _ h => h) (by rfl) (by intro w hSw; (try dsimp only at hSw); go_simp; try with_reducible rfl) (by assumption) ?_
    simp only [Act.put, List.setIfInBounds_toArray, List.set_cons_zero, List.set_cons_succ]
    refine any_take 38 (.slice x.gA ng x.gc) (i := 2) rfl rfl (by kernel_rfl) (by kernel_rfl) (by kernel_rfl) (fun _ _ _ h => h) (by rfl) (by intro w hSw; (try dsimp only at hSw); go_simp; try with_reducible rfl) (by assumption) ?_
    simp only [Act.put, List.setIfInBounds_toArray, List.set_cons_zero, List.set_cons_succ]
    refine any_take 40 (.pointer (some ⟨q, 1, none⟩)) (i := 4) rfl rfl (by kernel_rfl) (by kernel_rfl) (by kernel_rfl) (fun _ _ _ h => h) (by rfl) (by intro w hSw; (try dsimp only at hSw); go_simp; try with_reducible rfl) (by assumption) ?_
    simp only [Act.put, List.setIfInBounds_toArray, List.set_cons_zero, List.set_cons_succ]
    refine any_take 41 (.slice x.fA nf x.fc) (i := 5) rfl rfl (by kernel_rfl) (by kernel_rfl) (by kernel_rfl) (fun _ _ _ h => h) (by rfl) (by intro w hSw; (try dsimp only at hSw); go_simp; try with_reducible rfl) (by assumption) ?_
    simp only [Act.put, List.setIfInBounds_toArray, List.set_cons_zero, List.set_cons_succ]
    refine any_take 42 (.slice x.gA ng x.gc) (i := 6) rfl rfl (by kernel_rfl) (by kernel_rfl) (by kernel_rfl) (fun _ _ _ h => h) (by rfl) (by intro w hSw; (try dsimp only at hSw); go_simp; try with_reducible rfl) (by assumption) ?_
    simp only [Act.put, List.setIfInBounds_toArray, List.set_cons_zero, List.set_cons_succ]
    refine wpAnyH_ready (rs := [3]) (by kernel_rfl) (by simp) ?_
    refine AllReadyH.cons rfl (fun K' hK => ?_) AllReadyH.nil
    go_simp
    go_at_call 24
    refine (HSR.out _ (HF0.out.trans' (F1.out.drew) (fun _ _ e => e))).mono ?_
    rintro e' v0 ⟨g1, rfl, hb1, hg1, e1⟩
    have E1 := Lib.hid (F1.out.drew.trans' e1 (fun _ _ e => e))
    have uat := HA0.out _ (E1.out)
    have at1 := uat.cell 1
    simp only [List.getElem?_toArray, List.getElem?_cons_succ, List.getElem?_cons_zero] at at1
    clear uat
    dsimp only
    refine hK.out _ _ (at1) (fun hHeld => ?_)
    clear hK
    try simp only [Act.put, List.setIfInBounds_toArray, List.set_cons_zero, List.set_cons_succ]
    refine wpAnyH_ready (rs := [7]) (by kernel_rfl) (by simp) ?_
    refine AllReadyH.cons rfl (fun K' hK => ?_) AllReadyH.nil
    go_simp
    go_at_call 24
    refine (HSW.out _ (HF0.out.trans' E1.out (fun _ _ e => e))).mono ?_
    rintro e' v1 ⟨g2, rfl, hb2, hg2, e2⟩
    have E2 := Lib.hid (E1.out.trans' e2 (fun _ _ e => e))
    have uaz := HA0.out _ (E2.out)
    have az1 := uaz.cell 1
    simp only [List.getElem?_toArray, List.getElem?_cons_succ, List.getElem?_cons_zero] at az1
    clear uaz
    dsimp only
    refine hK.out _ _ (az1) (fun hHeld => ?_)
    clear hK
    try simp only [Act.put, List.setIfInBounds_toArray, List.set_cons_zero, List.set_cons_succ]
    refine any_take 11 (.pointer (some ⟨g1, 0, none⟩)) (i := 8) rfl rfl (by kernel_rfl) (by kernel_rfl) (by kernel_rfl) (fun _ _ _ h => h) (by rfl) (by intro w hSw; (try dsimp only at hSw); go_simp; try with_reducible rfl) (by assumption) ?_
    simp only [Act.put, List.setIfInBounds_toArray, List.set_cons_zero, List.set_cons_succ]
    refine any_take 12 (.pointer (some ⟨g2, 0, none⟩)) (i := 9) rfl rfl (by kernel_rfl) (by kernel_rfl) (by kernel_rfl) (fun _ _ _ h => h) (by rfl) (by intro w hSw; (try dsimp only at hSw); go_simp; try with_reducible rfl) (by assumption) ?_
    simp only [Act.put, List.setIfInBounds_toArray, List.set_cons_zero, List.set_cons_succ]
    refine wpAnyH_done (by kernel_rfl) ?_ _
    clear hHeld
    go_wp2_with fail
    refine (HCp.out _ (HF0.out.trans' E2 (fun _ _ e => e))).mono ?_
    rintro e v2 ⟨gc, rfl, hRc, hgc, e3⟩
    have E3 := Lib.hid (E2.trans' e3 (fun _ _ e => e))
    have ub := HB0.out _ (E3.out)
    have b0 := ub.cell 0
    have b1 := ub.cell 1
    have b2 := ub.cell 2
    have b3 := ub.cell 3
    simp only [List.getElem?_toArray, List.getElem?_cons_succ, List.getElem?_cons_zero] at b0 b1 b2 b3
    clear ub
    go_wp2
    obtain ⟨gr, hgr⟩ : ∃ gr, v2.heap.size = gr := ⟨_, rfl⟩
    have k1 := Bk.made v2 27 #[.int .i64 (r 0), .int .i64 (r 1), .int .i64 (r 2), .int .i64 (r 3)]
    have k2 := Bk.made (v2.alloc (.cells #[.int .i64 (r 0), .int .i64 (r 1), .int .i64 (r 2), .int .i64 (r 3)] 27)) 87 (flags 1000 fun _ => false)
    have k3 := Bk.made ((v2.alloc (.cells #[.int .i64 (r 0), .int .i64 (r 1), .int .i64 (r 2), .int .i64 (r 3)] 27)).alloc (.cells (flags 1000 fun _ => false) 87)) 87 (flags 1000 fun _ => false)
    have k4 : Fr No v2 (((v2.alloc (.cells #[.int .i64 (r 0), .int .i64 (r 1), .int .i64 (r 2), .int .i64 (r 3)] 27)).alloc (.cells (flags 1000 fun _ => false) 87)).alloc (.cells (flags 1000 fun _ => false) 87)) := (((Fr.refl _ _).alloc _).alloc _).alloc _
    have k1' := (k1.alloc (.cells (flags 1000 fun _ => false) 87)).alloc (.cells (flags 1000 fun _ => false) 87)
    have k2' := k2.alloc (.cells (flags 1000 fun _ => false) 87)
    simp only [World.size_alloc, hgr] at k1' k2' k3
    obtain ⟨W6, hW6⟩ : ∃ W6, ((v2.alloc (.cells #[.int .i64 (r 0), .int .i64 (r 1), .int .i64 (r 2), .int .i64 (r 3)] 27)).alloc (.cells (flags 1000 fun _ => false) 87)).alloc (.cells (flags 1000 fun _ => false) 87) = W6 := ⟨_, rfl⟩
    rw [hW6] at k1' k2' k3 k4
    have HE6 : Hid (RE W6 g1 g2 gc gr (gr + 1) (gr + 1 + 1) mr mw ⟨m, r, fun _ => false, fun _ => false⟩) := Lib.hid ⟨(hb1.fr e2 (fun e => e)).fr (e3.trans' k4 (fun _ _ e => e)) (fun e => e), hb2.fr (e3.trans' k4 (fun _ _ e => e)) (fun e => e), hRc.fr k4 (fun e => e), k1', k2', k3, by have h1 := hb1.lt; have h2 := e2.size; omega, by have h1 := hb2.lt; omega, by have h1 := hRc.lt; omega, by omega, by omega, Hreg.out, Hm0.out⟩
    have HF6 := Lib.hid (E3.out.trans' k4 (fun _ _ e => e))
    have Hgc : Hid (W0.heap.size ≤ gc ∧ gc < gr) := Lib.hid ⟨by have h1 := E2.size; omega, by have h1 := hRc.lt; omega⟩
    simp only [hgr]
    try rw [hW6]
    obtain ⟨gd, hgd⟩ : ∃ gd, gr + 1 = gd := ⟨_, rfl⟩
    simp only [hgd] at HE6 ⊢
    obtain ⟨gw, hgw⟩ : ∃ gw, gd + 1 = gw := ⟨_, rfl⟩
    simp only [hgw] at HE6 ⊢
    have HT : Hid (∀ k, k ≤ W0.heap.size - 1 → ¬ RT gc gr gd gw k) := Lib.hid (fun k hk e => by
      have h1 := Hgc.out
      rcases e with e | e | e | e <;> omega)
    have HFT : Hid (∀ W, Fr (RT gc gr gd gw) W6 W → Fr (RT gc gr gd gw) W0 W) := Lib.hid (fun W h => (HF6.out.weak (fun _ _ e => e.elim)).trans' h (fun _ _ e => e))
    have HNo : Hid (∀ W, Fr (RT gc gr gd gw) W0 W → Fr No w W) := Lib.hid (fun W h => by
      have h1 : Fr (fun k => w.heap.size ≤ k) w W := (HF0.out.weak (fun _ _ e => e.elim)).trans' h (fun k _ hk => by
        have h2 := HF0.out.size
        have h3 := Hgc.out
        show w.heap.size ≤ k
        rcases hk with e | e | e | e <;> omega)
      exact ⟨h1.same, h1.size, fun i hi hn => h1.block i hi (fun e => by have e : w.heap.size ≤ i := e; omega)⟩)
    have HAT := Lib.hid (fun W (h : Fr (RT gc gr gd gw) W0 W) => HA.out _ W h (HT.out _ (by omega)))
    have HBT := Lib.hid (fun W (h : Fr (RT gc gr gd gw) W0 W) => HB.out _ W h (HT.out _ (by omega)))
    have HZT := Lib.hid (fun W (h : Fr (RT gc gr gd gw) W0 W) => HZ'.out _ W h (HT.out _ (by omega)))
    have HXT := Lib.hid (fun W (h : Fr (RT gc gr gd gw) W0 W) => HXc.out No W (HNo.out W h) (fun _ _ e => e))
    have HRun0 : Hid (runI ask mr mw x.gs (x.code.take 0) 0 ⟨m, r, fun _ => false, fun _ => false⟩ = .ok ⟨m, r, fun _ => false, fun _ => false⟩) := Lib.hid rfl
    have hgw' : gr < gd ∧ gd < gw := ⟨by omega, by omega⟩
    have a0 := (HAT.out _ (HFT.out _ (Fr.refl _ _))).cell 0
    simp only [List.getElem?_toArray, List.getElem?_cons_zero] at a0
    clear k1 k2 k3 k4 k1' k2' hb1 hb2 hRc hgc hg1 hg2 e1 e2 e3 E1 E2 E3 F1 hW6 hgr hgd hgw b0 b1 b2 b3 HCp HSR HSW HA HB HZ' HA0 HB0 HZ HXc hz Hreg Hm0
    go_loopw [17] (fun iv wr => ∃ (i : Nat) (s : Sst), i ≤ nc ∧ iv = .int .i64 i ∧ Hid (runI ask mr mw x.gs (x.code.take i) 0 ⟨m, r, fun _ => false, fun _ => false⟩ = .ok s) ∧ Hid (RE wr g1 g2 gc gr gd gw mr mw s) ∧ Hid (Fr (RT gc gr gd gw) W6 wr)) (fun iv _ => nc - (intOf iv).toNat)
    case atStart => exact ⟨0, _, Nat.zero_le _, rfl, HRun0, HE6, Lib.hid (Fr.refl _ _)⟩
    case round =>
      clear a0 HE6 HRun0
      obtain ⟨i, s, hi, rfl, hrun, hre, hfr⟩ := hrel
      have a0 := (HAT.out _ (HFT.out _ hfr.out)).cell 0
      simp only [List.getElem?_toArray, List.getElem?_cons_zero] at a0
      by_cases hlt : i < nc
      · have hil : i < x.code.length := by rw [Hnc.out]; exact hlt
        obtain ⟨hok, hxx⟩ := Hins.out i hil
        obtain ⟨ad, rfl, hab, p0, p1, p2, p3, p4, p5, p6, p7, p8⟩ := (HXT.out _ (HFT.out _ hfr.out)).ins9 hil
        have Hnext := Lib.hid (fun s2 (h : stepI ask mr mw x.gs x.code[i] s = .ok s2) => runI_next hil hrun.out h)
        have Hbad := Lib.hid (fun e (h : stepI ask mr mw x.gs x.code[i] s = .error e) => HrunE.out e i (runI_fails hil hrun.out h))
        generalize x.code[i] = ins at *
        obtain ⟨op, a, b, c, ka, kb, la, lb, xx⟩ := ins
        unfold InsOk at hok
        simp only at hok hxx p0 p1 p2 p3 p4 p5 p6 p7 p8
        obtain ⟨hop, ha, -, -, hbc, -, -, hbc2, hka, hla⟩ := hok
        obtain ⟨a, rfl⟩ : ∃ n : Nat, a = n := ⟨a.toNat, (Int.toNat_of_nonneg ha.1).symm⟩
        have ha4 : a < 4 := by omega
        have hb4 : 0 ≤ b ∧ b ≤ 3 := by
          by_cases h6 : op = 6 ∨ op = 7
          · exact (hbc2 h6).1
          · have := hbc (by omega) (by omega); omega
        have hc4 : 0 ≤ c ∧ c ≤ 3 := by
          by_cases h6 : op = 6 ∨ op = 7
          · exact (hbc2 h6).2
          · have := hbc (by omega) (by omega); omega
        obtain ⟨b, rfl⟩ : ∃ n : Nat, b = n := ⟨b.toNat, (Int.toNat_of_nonneg hb4.1).symm⟩
        obtain ⟨c, rfl⟩ : ∃ n : Nat, c = n := ⟨c.toNat, (Int.toNat_of_nonneg hc4.1).symm⟩
        have hb5 : b < 4 := by omega
        have hc5 : c < 4 := by omega
        have Hka := Lib.hid hka
        have Hla := Lib.hid hla
        clear hbc hbc2 hka hla hb4 hc4
        have hrs : W0.heap.size < wr.heap.size ∧ gw < wr.heap.size := ⟨by have h1 := hre.out.mp.lt; have h2 := Hgc.out; omega, hre.out.wt.lt⟩
        obtain ⟨u, hu⟩ : ∃ u, wr.heap.size = u := ⟨_, rfl⟩
        rw [hu] at hrs
        have huT : Hid (¬ RT gc gr gd gw u) := Lib.hid (fun e => by have h1 := Hgc.out; rcases e with e | e | e | e <;> omega)
        have aT1 : (0 : Int) ≤ (a : Int) := by omega
        have aT2 : (a : Int) < 4 := by omega
        clear hrun ha
        have bP := Bk.made wr 66 #[.int .i64 op, .int .i64 a, .int .i64 b, .int .i64 c, .int .i64 ka, .int .i64 kb, .int .i64 la, .int .i64 lb, .int .i64 xx]
        have fP : Fr No wr (wr.alloc (.cells #[.int .i64 op, .int .i64 a, .int .i64 b, .int .i64 c, .int .i64 ka, .int .i64 kb, .int .i64 la, .int .i64 lb, .int .i64 xx] 66)) := (Fr.refl _ _).alloc _
        obtain ⟨V, hV⟩ : ∃ V, wr.alloc (.cells #[.int .i64 op, .int .i64 a, .int .i64 b, .int .i64 c, .int .i64 ka, .int .i64 kb, .int .i64 la, .int .i64 lb, .int .i64 xx] 66) = V := ⟨_, rfl⟩
        rw [hV, hu] at bP
        rw [hV] at fP
        have HP := Lib.hid (fun W (h : Fr (RT gc gr gd gw) V W) => bP.fr h huT.out)
        have HFV := Lib.hid ((HFT.out _ hfr.out).trans' fP (fun _ _ e => e.elim))
        have HF6V := Lib.hid (hfr.out.trans' fP (fun _ _ e => e.elim))
        have HEV := Lib.hid (hre.out.fr fP)
        clear bP fP hre hfr
        have us := HP.out _ (Fr.refl _ _)
        have s0 := us.cell 0
        have s4 := us.cell 4
        have s5 := us.cell 5
        simp only [List.getElem?_toArray, List.getElem?_cons_succ, List.getElem?_cons_zero] at s0 s4 s5
        clear us
        go_upto_if 61 with fail
        go_cut [19] from 61 to 65 (fun v19 wx => ∃ k : Nat, v19 = .int .i64 (k : Int) ∧ k < 1000 ∧ Hid (op ≤ 4 → keyOf ka kb x.gs = (k : Int)) ∧ Hid (Fr No V wx))
        case first =>
          by_cases h4 : op ≤ 4
          · obtain ⟨k, hk, hk2, hk3⟩ := HKy.out ka kb ((keyOk_iff _ _ _).2 (Hka.out h4))
            have Hk2 := Lib.hid hk2
            have HK := Lib.hid (hk3 V (HNo.out _ HFV.out))
            clear hk2 hk3
            go_wp2_with fail
            refine (HK.out).mono ?_
            rintro e K0 ⟨rfl, fk⟩
            have Hfk := Lib.hid fk
            clear fk
            go_wp2
            go_meet
            exact ⟨k, rfl, hk, Lib.hid (fun _ => Hk2.out), Hfk⟩
          · go_wp2
            go_meet
            exact ⟨0, rfl, by omega, Lib.hid (fun h => by omega), Lib.hid (Fr.refl _ _)⟩
        case rest =>
          obtain ⟨k, rfl, hk, Hk3, hfk⟩ := hcut
          have HEK := Lib.hid (HEV.out.fr hfk.out)
          have HF6K := Lib.hid (HF6V.out.trans' hfk.out (fun _ _ e => e.elim))
          have HFK := Lib.hid (HFV.out.trans' hfk.out (fun _ _ e => e.elim))
          have HPK := Lib.hid (fun W (h : Fr (RT gc gr gd gw) wc W) => HP.out W ((hfk.out.weak (fun _ _ e => e.elim)).trans' h (fun _ _ e => e)))
          clear HEV HF6V HFV HP hfk s0 s4 s5 hV p0 p1 p2 p3 p4 p5 p6 p7 p8 a0
          have kT1 : (0 : Int) ≤ (k : Int) := by omega
          have kT2 : (k : Int) < 1000 := by omega
          have us := HPK.out _ (Fr.refl _ _)
          have s0 := us.cell 0
          simp only [List.getElem?_toArray, List.getElem?_cons_zero] at s0
          clear us
          have HOK := Lib.hid (fun (s2 : Sst) (wx : World) (h : stepI ask mr mw x.gs ⟨op, (a : Int), (b : Int), (c : Int), ka, kb, la, lb, xx⟩ s = .ok s2) (h1 : RE wx g1 g2 gc gr gd gw mr mw s2) (h2 : Fr (RT gc gr gd gw) W6 wx) => show Sw13 ask mr mw x.gs ⟨op, (a : Int), (b : Int), (c : Int), ka, kb, la, lb, xx⟩ s g1 g2 gc gr gd gw W6 (.int .i64 0) wx from .inl ⟨s2, rfl, h, h1, h2⟩)
          have HBD := Lib.hid (fun (e : Nat) (wx : World) (h0 : 0 < e) (h : stepI ask mr mw x.gs ⟨op, (a : Int), (b : Int), (c : Int), ka, kb, la, lb, xx⟩ s = .error e) (h2 : Fr (RT gc gr gd gw) W6 wx) => show Sw13 ask mr mw x.gs ⟨op, (a : Int), (b : Int), (c : Int), ka, kb, la, lb, xx⟩ s g1 g2 gc gr gd gw W6 (.int .i64 (e : Int)) wx from .inr ⟨e, rfl, h0, h, h2⟩)
          go_upto_block 2 with fail
          clear s0
          go_cut [20, 21, 22, 23, 24, 25, 26] from 68 to 226 (fun v20 _ _ _ _ _ _ wx => Hid (Sw13 ask mr mw x.gs ⟨op, (a : Int), (b : Int), (c : Int), ka, kb, la, lb, xx⟩ s g1 g2 gc gr gd gw W6 v20 wx))
          case first =>
            clear Hnext Hbad HrunE HrunO HPO HZT HBT hZ9
            rcases (show op = 1 ∨ op = 2 ∨ op = 3 ∨ op = 4 ∨ op = 5 ∨ op = 6 ∨ op = 7 ∨ op = 8 by omega) with rfl | rfl | rfl | rfl | rfl | rfl | rfl | rfl
            · have Hk2 := Lib.hid (Hk3.out (by decide))
              cases ask
              · as_aux_lemma =>
                  have us := HPK.out _ (Fr.refl _ _)
                  have s0 := us.cell 0
                  have s1 := us.cell 1
                  simp only [List.getElem?_toArray, List.getElem?_cons_succ, List.getElem?_cons_zero] at s0 s1
                  clear us
                  have z0 := (HEK.out.frz k).2.1
                  have z1 := HEK.out.rd_at hk
                  obtain ⟨V1, hV1⟩ : ∃ V9, World.setCell wc ⟨gd, k, none⟩ (.bool true) = V9 := ⟨_, rfl⟩
                  have HE1 := Lib.hid (HEK.out.setD k)
                  have fV1 : Fr (RT gc gr gd gw) wc _ := (Fr.refl _ _).setCell (p := ⟨gd, k, none⟩) (.inl (.inr (.inr (.inl rfl)))) (.bool true)
                  rw [hV1] at HE1 fV1
                  have ux := HPK.out _ (fV1)
                  have x0 := ux.cell 0
                  have x1 := ux.cell 1
                  simp only [List.getElem?_toArray, List.getElem?_cons_succ, List.getElem?_cons_zero] at x0 x1
                  clear ux
                  have z2 := (HE1.out.frz a).1
                  have z3 := HE1.out.reg_at ha4
                  obtain ⟨V2, hV2⟩ : ∃ V9, World.setCell V1 ⟨gr, a, none⟩ (.int .i64 0) = V9 := ⟨_, rfl⟩
                  have HE2 := Lib.hid (HE1.out.setR ha4 (v := 0) (by unfold I64; omega))
                  have fV2 : Fr (RT gc gr gd gw) wc _ := (fV1).setCell (p := ⟨gr, a, none⟩) (.inl (.inr (.inl rfl))) (.int .i64 0)
                  rw [hV2] at HE2 fV2
                  have z4 := HE2.out.is hk
                  have HF2 := Lib.hid (HF6K.out.trans' fV2 (fun _ _ e => e))
                  cases hp : isM s.m k
                  · rw [hp] at z4
                    have Hp := Lib.hid hp
                    have HEX : Hid (RE V2 g1 g2 gc gr gd gw mr mw { s with rd := upd s.rd k true, r := upd s.r a (valM s.m k) }) := Lib.hid (by rw [valM_no hp]; exact HE2.out)
                    clear hp fV1 fV2 HPK HEK HFK HF6K HE1 HE2
                    go_wp2
                    have HM := Lib.hid (HOK.out _ _ ((st_one rfl Hk2.out rfl).trans (if_neg (by simp))) (HEX).out (HF2).out)
                    go_meet
                    exact HM
                  · rw [hp] at z4
                    have uy := HPK.out _ (fV2.drew)
                    have y0 := uy.cell 0
                    have y1 := uy.cell 1
                    simp only [List.getElem?_toArray, List.getElem?_cons_succ, List.getElem?_cons_zero] at y0 y1
                    clear uy
                    have z5 := (HE2.out.fr (Fr.refl No V2).drew).val hk hp
                    have z6 := ((HE2.out.fr (Fr.refl No V2).drew).frz a).1
                    have z7 := (HE2.out.fr (Fr.refl No V2).drew).reg_at ha4
                    have hI := valM_I64 HE2.out k
                    have HE3 := HE2.out.setR ha4 (v := valM s.m k) hI
                    simp only [upd_twice] at HE3
                    have fV3 : Fr (RT gc gr gd gw) W6 _ := (HF2.out).setCell (p := ⟨gr, a, none⟩) (.inl (.inr (.inl rfl))) (.int .i64 (valM s.m k))
                    have HEX := Lib.hid (HE3.fr (Fr.refl No _).drew)
                    have HFX := Lib.hid fV3.drew
                    have Hsp : Hid (stepI false mr mw x.gs ⟨1, a, b, c, ka, kb, la, lb, xx⟩ s = .ok { s with rd := upd s.rd k true, r := upd s.r a (valM s.m k) }) := Lib.hid ((st_one rfl Hk2.out rfl).trans (if_neg (by simp)))
                    simp only at z5
                    clear HE3 fV3 hI
                    generalize valM s.m k = vk at *
                    clear hp fV1 fV2 HPK HEK HFK HF6K HE1 HE2 HF2
                    go_wp2_with fail
                    go_region
                    all_goals
                      go_wp2
                      have HM := Lib.hid (HOK.out _ _ (Hsp.out) (HEX).out (HFX).out)
                      go_meet
                      exact HM
              · have m1 := HEK.out.may1 hk
                obtain ⟨ff, hff⟩ : ∃ ff, mr k = ff := ⟨_, rfl⟩
                rw [hff] at m1
                have Hff := Lib.hid hff
                clear hff
                cases ff
                · as_aux_lemma =>
                    have us := HPK.out _ (Fr.refl _ _)
                    have s0 := us.cell 0
                    simp only [List.getElem?_toArray, List.getElem?_cons_zero] at s0
                    clear us
                    have HM := Lib.hid (HBD.out 9 (wc) (by decide) ((st_one rfl Hk2.out rfl).trans (if_pos (by rw [Hff.out]; rfl))) (HF6K.out))
                    go_wp2
                    go_meet
                    exact HM
                · as_aux_lemma =>
                    have us := HPK.out _ (Fr.refl _ _)
                    have s0 := us.cell 0
                    have s1 := us.cell 1
                    simp only [List.getElem?_toArray, List.getElem?_cons_succ, List.getElem?_cons_zero] at s0 s1
                    clear us
                    have z0 := (HEK.out.frz k).2.1
                    have z1 := HEK.out.rd_at hk
                    obtain ⟨V1, hV1⟩ : ∃ V9, World.setCell wc ⟨gd, k, none⟩ (.bool true) = V9 := ⟨_, rfl⟩
                    have HE1 := Lib.hid (HEK.out.setD k)
                    have fV1 : Fr (RT gc gr gd gw) wc _ := (Fr.refl _ _).setCell (p := ⟨gd, k, none⟩) (.inl (.inr (.inr (.inl rfl)))) (.bool true)
                    rw [hV1] at HE1 fV1
                    have ux := HPK.out _ (fV1)
                    have x0 := ux.cell 0
                    have x1 := ux.cell 1
                    simp only [List.getElem?_toArray, List.getElem?_cons_succ, List.getElem?_cons_zero] at x0 x1
                    clear ux
                    have z2 := (HE1.out.frz a).1
                    have z3 := HE1.out.reg_at ha4
                    obtain ⟨V2, hV2⟩ : ∃ V9, World.setCell V1 ⟨gr, a, none⟩ (.int .i64 0) = V9 := ⟨_, rfl⟩
                    have HE2 := Lib.hid (HE1.out.setR ha4 (v := 0) (by unfold I64; omega))
                    have fV2 : Fr (RT gc gr gd gw) wc _ := (fV1).setCell (p := ⟨gr, a, none⟩) (.inl (.inr (.inl rfl))) (.int .i64 0)
                    rw [hV2] at HE2 fV2
                    have z4 := HE2.out.is hk
                    have HF2 := Lib.hid (HF6K.out.trans' fV2 (fun _ _ e => e))
                    cases hp : isM s.m k
                    · rw [hp] at z4
                      have Hp := Lib.hid hp
                      have HEX : Hid (RE V2 g1 g2 gc gr gd gw mr mw { s with rd := upd s.rd k true, r := upd s.r a (valM s.m k) }) := Lib.hid (by rw [valM_no hp]; exact HE2.out)
                      clear hp fV1 fV2 HPK HEK HFK HF6K HE1 HE2
                      go_wp2
                      have HM := Lib.hid (HOK.out _ _ ((st_one rfl Hk2.out rfl).trans (if_neg (by rw [Hff.out]; simp))) (HEX).out (HF2).out)
                      go_meet
                      exact HM
                    · rw [hp] at z4
                      have uy := HPK.out _ (fV2.drew)
                      have y0 := uy.cell 0
                      have y1 := uy.cell 1
                      simp only [List.getElem?_toArray, List.getElem?_cons_succ, List.getElem?_cons_zero] at y0 y1
                      clear uy
                      have z5 := (HE2.out.fr (Fr.refl No V2).drew).val hk hp
                      have z6 := ((HE2.out.fr (Fr.refl No V2).drew).frz a).1
                      have z7 := (HE2.out.fr (Fr.refl No V2).drew).reg_at ha4
                      have hI := valM_I64 HE2.out k
                      have HE3 := HE2.out.setR ha4 (v := valM s.m k) hI
                      simp only [upd_twice] at HE3
                      have fV3 : Fr (RT gc gr gd gw) W6 _ := (HF2.out).setCell (p := ⟨gr, a, none⟩) (.inl (.inr (.inl rfl))) (.int .i64 (valM s.m k))
                      have HEX := Lib.hid (HE3.fr (Fr.refl No _).drew)
                      have HFX := Lib.hid fV3.drew
                      have Hsp : Hid (stepI true mr mw x.gs ⟨1, a, b, c, ka, kb, la, lb, xx⟩ s = .ok { s with rd := upd s.rd k true, r := upd s.r a (valM s.m k) }) := Lib.hid ((st_one rfl Hk2.out rfl).trans (if_neg (by rw [Hff.out]; simp)))
                      simp only at z5
                      clear HE3 fV3 hI
                      generalize valM s.m k = vk at *
                      clear hp fV1 fV2 HPK HEK HFK HF6K HE1 HE2 HF2
                      go_wp2_with fail
                      go_region
                      all_goals
                        go_wp2
                        have HM := Lib.hid (HOK.out _ _ (Hsp.out) (HEX).out (HFX).out)
                        go_meet
                        exact HM
            · have Hk2 := Lib.hid (Hk3.out (by decide))
              cases ask
              · as_aux_lemma =>
                  have us := HPK.out _ (Fr.refl _ _)
                  have s0 := us.cell 0
                  have s1 := us.cell 1
                  simp only [List.getElem?_toArray, List.getElem?_cons_succ, List.getElem?_cons_zero] at s0 s1
                  clear us
                  have z0 := (HEK.out.frz k).2.2.1
                  have z1 := HEK.out.wr_at hk
                  obtain ⟨V1, hV1⟩ : ∃ V9, World.setCell wc ⟨gw, k, none⟩ (.bool true) = V9 := ⟨_, rfl⟩
                  have HE1 := Lib.hid (HEK.out.setW k)
                  have fV1 : Fr (RT gc gr gd gw) wc _ := (Fr.refl _ _).setCell (p := ⟨gw, k, none⟩) (.inl (.inr (.inr (.inr rfl)))) (.bool true)
                  rw [hV1] at HE1 fV1
                  have HF1 := Lib.hid (HF6K.out.trans' fV1 (fun _ _ e => e))
                  have ux := HPK.out _ (fV1.drew)
                  have x0 := ux.cell 0
                  have x1 := ux.cell 1
                  simp only [List.getElem?_toArray, List.getElem?_cons_succ, List.getElem?_cons_zero] at x0 x1
                  clear ux
                  have HD1 := Lib.hid (HE1.out.fr (Fr.refl No V1).drew)
                  have z2 := HD1.out.is hk
                  have z3 := (HD1.out.frz k).2.2.2
                  obtain ⟨V2, hV2⟩ : ∃ V9, World.setCell V1 ⟨gc, k, none⟩ (.bool true) = V9 := ⟨_, rfl⟩
                  have fV2 : Fr (RT gc gr gd gw) wc _ := ((fV1).setCell (p := ⟨gc, k, none⟩) (.inl (.inl rfl)) (.bool true))
                  rw [hV2] at fV2
                  have uy := HPK.out _ (fV2.drew)
                  have y0 := uy.cell 0
                  have y1 := uy.cell 1
                  simp only [List.getElem?_toArray, List.getElem?_cons_succ, List.getElem?_cons_zero] at y0 y1
                  clear uy
                  have uv := HPK.out _ (fV2.drew.drew)
                  have v0 := uv.cell 0
                  have v1 := uv.cell 1
                  simp only [List.getElem?_toArray, List.getElem?_cons_succ, List.getElem?_cons_zero] at v0 v1
                  clear uv
                  obtain ⟨bm, vm, hbm, -⟩ := HE1.out.mp
                  have hb1 := hbm.put k (.bool true)
                  rw [hV2] at hb1
                  have hb2 := hb1.fr ((Fr.refl No V2).drew.drew) (fun e => e)
                  rw [mcells_putB _ _ hk] at hb2
                  have z4 := hb2.mv hk
                  have z5 := hb2.frozen (1000 + k)
                  clear hbm hb1 hb2
                  have z6 : V2.drew.drew.cell? ⟨gr, a, none⟩ = some (.int .i64 (s.r a)) := by
                    rw [← hV2]
                    exact (HE1.out.rg.fr (S := fun j => j = gc) (((Fr.refl (fun j => j = gc) V1).setCell (p := ⟨gc, k, none⟩) (.inl rfl) (.bool true)).drew.drew) (by have := HE1.out.o3; omega)).cell a |>.trans (rcells_at _ ha4)
                  have HE3 := HE1.out.setM hk (v := s.r a) (HE1.out.reg a ha4)
                  rw [hV2] at HE3
                  have fV3 : Fr (RT gc gr gd gw) W6 _ := ((HF6K.out.trans' fV2 (fun _ _ e => e))).setCell (p := ⟨gc, 1000 + k, none⟩) (.inl (.inl rfl)) (.int .i64 (s.r a))
                  have HEX := Lib.hid (HE3.fr ((Fr.refl No _).drew.drew))
                  have HFX := Lib.hid fV3.drew.drew
                  clear HE3 fV1 fV2 fV3 HPK HEK HFK HF6K HE1 HF1 HD1
                  go_wp2_with fail
                  go_region
                  all_goals
                    go_wp2_with fail
                    go_region
                    all_goals
                      go_wp2
                      have HM := Lib.hid (HOK.out _ _ ((st_two rfl Hk2.out rfl).trans (if_neg (by simp))) (HEX).out (HFX).out)
                      go_meet
                      exact HM
              · have m1 := HEK.out.may2 hk
                obtain ⟨ff, hff⟩ : ∃ ff, mw k = ff := ⟨_, rfl⟩
                rw [hff] at m1
                have Hff := Lib.hid hff
                clear hff
                cases ff
                · as_aux_lemma =>
                    have us := HPK.out _ (Fr.refl _ _)
                    have s0 := us.cell 0
                    simp only [List.getElem?_toArray, List.getElem?_cons_zero] at s0
                    clear us
                    have HM := Lib.hid (HBD.out 9 (wc) (by decide) ((st_two rfl Hk2.out rfl).trans (if_pos (by rw [Hff.out]; rfl))) (HF6K.out))
                    go_wp2
                    go_meet
                    exact HM
                · as_aux_lemma =>
                    have us := HPK.out _ (Fr.refl _ _)
                    have s0 := us.cell 0
                    have s1 := us.cell 1
                    simp only [List.getElem?_toArray, List.getElem?_cons_succ, List.getElem?_cons_zero] at s0 s1
                    clear us
                    have z0 := (HEK.out.frz k).2.2.1
                    have z1 := HEK.out.wr_at hk
                    obtain ⟨V1, hV1⟩ : ∃ V9, World.setCell wc ⟨gw, k, none⟩ (.bool true) = V9 := ⟨_, rfl⟩
                    have HE1 := Lib.hid (HEK.out.setW k)
                    have fV1 : Fr (RT gc gr gd gw) wc _ := (Fr.refl _ _).setCell (p := ⟨gw, k, none⟩) (.inl (.inr (.inr (.inr rfl)))) (.bool true)
                    rw [hV1] at HE1 fV1
                    have HF1 := Lib.hid (HF6K.out.trans' fV1 (fun _ _ e => e))
                    have ux := HPK.out _ (fV1.drew)
                    have x0 := ux.cell 0
                    have x1 := ux.cell 1
                    simp only [List.getElem?_toArray, List.getElem?_cons_succ, List.getElem?_cons_zero] at x0 x1
                    clear ux
                    have HD1 := Lib.hid (HE1.out.fr (Fr.refl No V1).drew)
                    have z2 := HD1.out.is hk
                    have z3 := (HD1.out.frz k).2.2.2
                    obtain ⟨V2, hV2⟩ : ∃ V9, World.setCell V1 ⟨gc, k, none⟩ (.bool true) = V9 := ⟨_, rfl⟩
                    have fV2 : Fr (RT gc gr gd gw) wc _ := ((fV1).setCell (p := ⟨gc, k, none⟩) (.inl (.inl rfl)) (.bool true))
                    rw [hV2] at fV2
                    have uy := HPK.out _ (fV2.drew)
                    have y0 := uy.cell 0
                    have y1 := uy.cell 1
                    simp only [List.getElem?_toArray, List.getElem?_cons_succ, List.getElem?_cons_zero] at y0 y1
                    clear uy
                    have uv := HPK.out _ (fV2.drew.drew)
                    have v0 := uv.cell 0
                    have v1 := uv.cell 1
                    simp only [List.getElem?_toArray, List.getElem?_cons_succ, List.getElem?_cons_zero] at v0 v1
                    clear uv
                    obtain ⟨bm, vm, hbm, -⟩ := HE1.out.mp
                    have hb1 := hbm.put k (.bool true)
                    rw [hV2] at hb1
                    have hb2 := hb1.fr ((Fr.refl No V2).drew.drew) (fun e => e)
                    rw [mcells_putB _ _ hk] at hb2
                    have z4 := hb2.mv hk
                    have z5 := hb2.frozen (1000 + k)
                    clear hbm hb1 hb2
                    have z6 : V2.drew.drew.cell? ⟨gr, a, none⟩ = some (.int .i64 (s.r a)) := by
                      rw [← hV2]
                      exact (HE1.out.rg.fr (S := fun j => j = gc) (((Fr.refl (fun j => j = gc) V1).setCell (p := ⟨gc, k, none⟩) (.inl rfl) (.bool true)).drew.drew) (by have := HE1.out.o3; omega)).cell a |>.trans (rcells_at _ ha4)
                    have HE3 := HE1.out.setM hk (v := s.r a) (HE1.out.reg a ha4)
                    rw [hV2] at HE3
                    have fV3 : Fr (RT gc gr gd gw) W6 _ := ((HF6K.out.trans' fV2 (fun _ _ e => e))).setCell (p := ⟨gc, 1000 + k, none⟩) (.inl (.inl rfl)) (.int .i64 (s.r a))
                    have HEX := Lib.hid (HE3.fr ((Fr.refl No _).drew.drew))
                    have HFX := Lib.hid fV3.drew.drew
                    clear HE3 fV1 fV2 fV3 HPK HEK HFK HF6K HE1 HF1 HD1
                    go_wp2_with fail
                    go_region
                    all_goals
                      go_wp2_with fail
                      go_region
                      all_goals
                        go_wp2
                        have HM := Lib.hid (HOK.out _ _ ((st_two rfl Hk2.out rfl).trans (if_neg (by rw [Hff.out]; simp))) (HEX).out (HFX).out)
                        go_meet
                        exact HM
            · have Hk2 := Lib.hid (Hk3.out (by decide))
              cases ask
              · as_aux_lemma =>
                  have us := HPK.out _ (Fr.refl _ _)
                  have s0 := us.cell 0
                  have s1 := us.cell 1
                  simp only [List.getElem?_toArray, List.getElem?_cons_succ, List.getElem?_cons_zero] at s0 s1
                  clear us
                  have z0 := (HEK.out.frz k).2.2.1
                  have z1 := HEK.out.wr_at hk
                  obtain ⟨V1, hV1⟩ : ∃ V9, World.setCell wc ⟨gw, k, none⟩ (.bool true) = V9 := ⟨_, rfl⟩
                  have HE1 := Lib.hid (HEK.out.setW k)
                  have fV1 : Fr (RT gc gr gd gw) wc _ := (Fr.refl _ _).setCell (p := ⟨gw, k, none⟩) (.inl (.inr (.inr (.inr rfl)))) (.bool true)
                  rw [hV1] at HE1 fV1
                  have HF1 := Lib.hid (HF6K.out.trans' fV1 (fun _ _ e => e))
                  have ux := HPK.out _ (fV1.drew)
                  have x0 := ux.cell 0
                  have x1 := ux.cell 1
                  simp only [List.getElem?_toArray, List.getElem?_cons_succ, List.getElem?_cons_zero] at x0 x1
                  clear ux
                  have HD1 := Lib.hid (HE1.out.fr (Fr.refl No V1).drew)
                  have z2 := HD1.out.is hk
                  have z3 := (HD1.out.frz k).2.2.2
                  obtain ⟨V2, hV2⟩ : ∃ V9, World.setCell V1 ⟨gc, k, none⟩ (.bool false) = V9 := ⟨_, rfl⟩
                  have fV2 : Fr (RT gc gr gd gw) wc _ := ((fV1).setCell (p := ⟨gc, k, none⟩) (.inl (.inl rfl)) (.bool false))
                  rw [hV2] at fV2
                  have uy := HPK.out _ (fV2.drew)
                  have y0 := uy.cell 0
                  have y1 := uy.cell 1
                  simp only [List.getElem?_toArray, List.getElem?_cons_succ, List.getElem?_cons_zero] at y0 y1
                  clear uy
                  have HE2 := HE1.out.outM hk
                  rw [hV2] at HE2
                  have HEX := Lib.hid (HE2.fr (Fr.refl No V2).drew)
                  have HFX := Lib.hid (HF6K.out.trans' fV2.drew (fun _ _ e => e))
                  clear HE2 fV1 fV2 HPK HEK HFK HF6K HE1 HF1 HD1
                  go_wp2_with fail
                  go_region
                  all_goals
                    go_wp2
                    have HM := Lib.hid (HOK.out _ _ ((st_three rfl Hk2.out).trans (if_neg (by simp))) (HEX).out (HFX).out)
                    go_meet
                    exact HM
              · have m1 := HEK.out.may2 hk
                obtain ⟨ff, hff⟩ : ∃ ff, mw k = ff := ⟨_, rfl⟩
                rw [hff] at m1
                have Hff := Lib.hid hff
                clear hff
                cases ff
                · as_aux_lemma =>
                    have us := HPK.out _ (Fr.refl _ _)
                    have s0 := us.cell 0
                    simp only [List.getElem?_toArray, List.getElem?_cons_zero] at s0
                    clear us
                    have HM := Lib.hid (HBD.out 9 (wc) (by decide) ((st_three rfl Hk2.out).trans (if_pos (by rw [Hff.out]; rfl))) (HF6K.out))
                    go_wp2
                    go_meet
                    exact HM
                · as_aux_lemma =>
                    have us := HPK.out _ (Fr.refl _ _)
                    have s0 := us.cell 0
                    have s1 := us.cell 1
                    simp only [List.getElem?_toArray, List.getElem?_cons_succ, List.getElem?_cons_zero] at s0 s1
                    clear us
                    have z0 := (HEK.out.frz k).2.2.1
                    have z1 := HEK.out.wr_at hk
                    obtain ⟨V1, hV1⟩ : ∃ V9, World.setCell wc ⟨gw, k, none⟩ (.bool true) = V9 := ⟨_, rfl⟩
                    have HE1 := Lib.hid (HEK.out.setW k)
                    have fV1 : Fr (RT gc gr gd gw) wc _ := (Fr.refl _ _).setCell (p := ⟨gw, k, none⟩) (.inl (.inr (.inr (.inr rfl)))) (.bool true)
                    rw [hV1] at HE1 fV1
                    have HF1 := Lib.hid (HF6K.out.trans' fV1 (fun _ _ e => e))
                    have ux := HPK.out _ (fV1.drew)
                    have x0 := ux.cell 0
                    have x1 := ux.cell 1
                    simp only [List.getElem?_toArray, List.getElem?_cons_succ, List.getElem?_cons_zero] at x0 x1
                    clear ux
                    have HD1 := Lib.hid (HE1.out.fr (Fr.refl No V1).drew)
                    have z2 := HD1.out.is hk
                    have z3 := (HD1.out.frz k).2.2.2
                    obtain ⟨V2, hV2⟩ : ∃ V9, World.setCell V1 ⟨gc, k, none⟩ (.bool false) = V9 := ⟨_, rfl⟩
                    have fV2 : Fr (RT gc gr gd gw) wc _ := ((fV1).setCell (p := ⟨gc, k, none⟩) (.inl (.inl rfl)) (.bool false))
                    rw [hV2] at fV2
                    have uy := HPK.out _ (fV2.drew)
                    have y0 := uy.cell 0
                    have y1 := uy.cell 1
                    simp only [List.getElem?_toArray, List.getElem?_cons_succ, List.getElem?_cons_zero] at y0 y1
                    clear uy
                    have HE2 := HE1.out.outM hk
                    rw [hV2] at HE2
                    have HEX := Lib.hid (HE2.fr (Fr.refl No V2).drew)
                    have HFX := Lib.hid (HF6K.out.trans' fV2.drew (fun _ _ e => e))
                    clear HE2 fV1 fV2 HPK HEK HFK HF6K HE1 HF1 HD1
                    go_wp2_with fail
                    go_region
                    all_goals
                      go_wp2
                      have HM := Lib.hid (HOK.out _ _ ((st_three rfl Hk2.out).trans (if_neg (by rw [Hff.out]; simp))) (HEX).out (HFX).out)
                      go_meet
                      exact HM
            · have Hk2 := Lib.hid (Hk3.out (by decide))
              obtain ⟨hi, hhi, hhi2, hhi3⟩ := HKy.out la lb ((keyOk_iff _ _ _).2 (Hla.out (by decide)))
              have Hhi := Lib.hid hhi2
              have HK := Lib.hid (hhi3 wc (HNo.out _ HFK.out))
              clear hhi2 hhi3
              have us := HPK.out _ (Fr.refl _ _)
              have s0 := us.cell 0
              have s6 := us.cell 6
              have s7 := us.cell 7
              simp only [List.getElem?_toArray, List.getElem?_cons_succ, List.getElem?_cons_zero] at s0 s6 s7
              clear us
              have hT1 : (0 : Int) ≤ (hi : Int) := by omega
              have hT2 : (hi : Int) < 1000 := by omega
              go_wp2_with fail
              refine (HK.out).mono ?_
              rintro e K1 ⟨rfl, fk⟩
              have HEL := Lib.hid (HEK.out.fr fk)
              have HF6L := Lib.hid (HF6K.out.trans' fk (fun _ _ e => e.elim))
              have HFL := Lib.hid (HFK.out.trans' fk (fun _ _ e => e.elim))
              have HPL := Lib.hid (fun W (h : Fr (RT gc gr gd gw) K1 W) => HPK.out W ((fk.weak (fun _ _ e => e.elim)).trans' h (fun _ _ e => e)))
              clear fk HEK HF6K HFK HPK HK s0 s6 s7
              as_aux_lemma =>
                obtain ⟨n, hn⟩ : ∃ n, hi + 1 - k = n := ⟨_, rfl⟩
                have Hstep : Hid (stepI ask mr mw x.gs ⟨4, a, b, c, ka, kb, la, lb, xx⟩ s = if (ask && !allIn mr k n) = true then .error 9 else .ok { s with rd := fun j => s.rd j || between k n j, r := upd s.r a (cntM s.m k n : Nat) }) := Lib.hid (st_four rfl Hk2.out (by rw [show keyOf la lb x.gs = (hi : Int) from Hhi.out]; omega) rfl)
                have h90 : Hid ((0 : Int) = if (ask && !allIn mr k (k - k)) = true then 9 else 0) := Lib.hid (by rw [Nat.sub_self]; simp [allIn])
                have h91 : Hid (0 = cntM s.m k (k - k)) := Lib.hid (by rw [Nat.sub_self]; rfl)
                clear Hk2 Hhi
                go_wp2
                go_loopw [20, 22, 23] (fun ev nv qv wq => ∃ (p cn : Nat) (ee : Int), k ≤ p ∧ p ≤ k + n ∧ cn ≤ p ∧ ev = .int .i64 ee ∧ nv = .int .i64 (cn : Int) ∧ qv = .int .i64 (p : Int) ∧ Hid (cn = cntM s.m k (p - k)) ∧ Hid (ee = if (ask && !allIn mr k (p - k)) = true then 9 else 0) ∧ K1 = wq) (fun _ _ qv _ => hi + 1 - (intOf qv).toNat)
                case atStart => exact ⟨k, 0, 0, Nat.le_refl _, Nat.le_add_right _ _, Nat.zero_le _, rfl, rfl, rfl, h91, h90, rfl⟩
                case round =>
                  clear h90 h91
                  obtain ⟨p, cn, ee, hp1, hp2, hp3, rfl, rfl, rfl, hcn, hee, rfl⟩ := hrel
                  by_cases hlt : p ≤ hi
                  · have hp4 : p < 1000 := by omega
                    have m1 := HEL.out.may1 hp4
                    have m2 := HEL.out.is hp4
                    obtain ⟨ff, hff⟩ : ∃ ff, mr p = ff := ⟨_, rfl⟩
                    obtain ⟨fb, hfb⟩ : ∃ fb, isM s.m p = fb := ⟨_, rfl⟩
                    rw [hff] at m1
                    rw [hfb] at m2
                    have HeN : Hid (∀ e', (e' = if (ask && !ff) = true then 9 else ee) → e' = if (ask && !allIn mr k (p + 1 - k)) = true then 9 else 0) := Lib.hid (fun e' h => by
                      rw [h, hee.out, show p + 1 - k = (p - k) + 1 by omega, allIn, show k + (p - k) = p by omega, hff]
                      cases ask <;> cases ff <;> cases allIn mr k (p - k) <;> simp)
                    have HcN : Hid (cntM s.m k (p + 1 - k) = cn + if fb = true then 1 else 0) := Lib.hid (by
                      rw [hcn.out, show p + 1 - k = (p - k) + 1 by omega, cntM, show k + (p - k) = p by omega, hfb])
                    have pT1 : (0 : Int) ≤ (p : Int) := by omega
                    have pT2 : (p : Int) < 1000 := by omega
                    have pT3 : (p : Int) ≤ (hi : Int) := by omega
                    clear hff hfb hcn hee
                    cases fb
                    · cases ask <;> cases ff
                      all_goals
                        go_wp2
                        go_roundw
                        case rel => exact ⟨p + 1, cn, _, by omega, by omega, by omega, rfl, rfl, by go_num, Lib.hid (by rw [HcN.out]; rfl), Lib.hid (HeN.out _ rfl), by first | rfl | trivial⟩
                        case measure => simp [intOf]; omega
                    · cases ask <;> cases ff
                      all_goals
                        go_wp2
                        go_roundw
                        case rel => exact ⟨p + 1, cn + 1, _, by omega, by omega, by omega, rfl, by go_num, by go_num, Lib.hid (by rw [HcN.out]; rfl), Lib.hid (HeN.out _ rfl), by first | rfl | trivial⟩
                        case measure => simp [intOf]; omega
                  · have hpk : p - k = n := by omega
                    have hnl : ¬ (p : Int) ≤ (hi : Int) := by omega
                    rw [hpk] at hcn hee
                    obtain ⟨fa, hfa⟩ : ∃ fa, (ask && !allIn mr k n) = fa := ⟨_, rfl⟩
                    have Hfa := Lib.hid hfa
                    rw [hfa] at hee
                    clear hfa hpk
                    cases fa
                    · obtain rfl : ee = 0 := hee.out
                      have Hgo : Hid (stepI ask mr mw x.gs ⟨4, a, b, c, ka, kb, la, lb, xx⟩ s = .ok { s with rd := fun j => s.rd j || between k n j, r := upd s.r a (cn : Int) }) := Lib.hid (by rw [Hstep.out, Hfa.out, hcn.out]; rfl)
                      have HE0 : Hid (RE K1 g1 g2 gc gr gd gw mr mw { s with rd := fun j => s.rd j || between k (k - k) j }) := Lib.hid (by rw [Nat.sub_self, between_zero]; exact HEL.out)
                      have hcn9 : cn ≤ 1000 := by omega
                      clear hee hcn Hstep Hfa
                      go_wp2
                      go_loopw [24] (fun qv wq => ∃ p : Nat, k ≤ p ∧ p ≤ k + n ∧ qv = .int .i64 (p : Int) ∧ Hid (RE wq g1 g2 gc gr gd gw mr mw { s with rd := fun j => s.rd j || between k (p - k) j }) ∧ Hid (Fr (RT gc gr gd gw) K1 wq)) (fun qv _ => hi + 1 - (intOf qv).toNat)
                      case atStart => exact ⟨k, Nat.le_refl _, Nat.le_add_right _ _, rfl, HE0, Lib.hid (Fr.refl _ _)⟩
                      case round =>
                        clear HE0 hp1 hp2 hp3 hlt hnl
                        obtain ⟨p, hp1, hp2, rfl, hEp, hFp⟩ := hrel
                        by_cases hlt : p ≤ hi
                        · have hp4 : p < 1000 := by omega
                          have pT1 : (0 : Int) ≤ (p : Int) := by omega
                          have pT2 : (p : Int) < 1000 := by omega
                          have pT3 : (p : Int) ≤ (hi : Int) := by omega
                          have z0 := (hEp.out.frz p).2.1
                          have z1 := hEp.out.rd_at hp4
                          simp only at z1
                          have HE2 : Hid (RE (wr.setCell ⟨gd, p, none⟩ (.bool true)) g1 g2 gc gr gd gw mr mw { s with rd := fun j => s.rd j || between k (p + 1 - k) j }) := Lib.hid (by
                            have h := hEp.out.setD p
                            have e := between_succ s.rd k (p - k)
                            rw [show k + (p - k) = p by omega, show (p - k) + 1 = p + 1 - k by omega] at e
                            rw [← e]
                            exact h)
                          have HF2 := Lib.hid (hFp.out.setCell (p := ⟨gd, p, none⟩) (.inl (.inr (.inr (.inl rfl)))) (.bool true))
                          generalize (s.rd p || between k (p - k) p) = zv at *
                          clear hEp hFp
                          go_wp2
                          go_roundw
                          case rel => exact ⟨p + 1, by omega, by omega, by go_num, HE2, HF2⟩
                          case measure => simp [intOf]; omega
                        · have hpk : p - k = n := by omega
                          have hnl : ¬ (p : Int) ≤ (hi : Int) := by omega
                          rw [hpk] at hEp
                          have uy := HPL.out _ (hFp.out)
                          have y1 := uy.cell 1
                          simp only [List.getElem?_toArray, List.getElem?_cons_succ, List.getElem?_cons_zero] at y1
                          clear uy
                          have z0 := (hEp.out.frz a).1
                          have z1 := hEp.out.reg_at ha4
                          simp only at z1
                          have HE1 := Lib.hid (hEp.out.setR ha4 (v := (cn : Int)) (by unfold I64; omega))
                          have HF1 := Lib.hid ((HF6L.out.trans' hFp.out (fun _ _ e => e)).setCell (p := ⟨gr, a, none⟩) (.inl (.inr (.inl rfl))) (.int .i64 (cn : Int)))
                          clear hEp hFp
                          go_wp2
                          have HM := Lib.hid (HOK.out _ _ (Hgo.out) (HE1).out (HF1).out)
                          go_meet
                          exact HM
                    · obtain rfl : ee = 9 := hee.out
                      have Hno : Hid (stepI ask mr mw x.gs ⟨4, a, b, c, ka, kb, la, lb, xx⟩ s = .error 9) := Lib.hid (by rw [Hstep.out, Hfa.out]; rfl)
                      clear hee hcn Hstep Hfa
                      have HM := Lib.hid (HBD.out 9 (K1) (by decide) (Hno.out) (HF6L.out))
                      go_wp2
                      go_meet
                      exact HM
            · obtain ⟨V1, hV1⟩ : ∃ V9, World.setCell wc ⟨gr, a, none⟩ (.int .i64 xx) = V9 := ⟨_, rfl⟩
              have z1 := (HEK.out.frz a).1
              have z2 := HEK.out.reg_at ha4
              have HE1 := Lib.hid (HEK.out.setR ha4 hxx)
              have HF1 := Lib.hid ((HF6K.out).setCell (p := ⟨gr, a, none⟩) (.inl (.inr (.inl rfl))) (.int .i64 xx))
              rw [hV1] at HE1 HF1
              have us := HPK.out _ (Fr.refl _ _)
              have s0 := us.cell 0
              have s1 := us.cell 1
              have s8 := us.cell 8
              simp only [List.getElem?_toArray, List.getElem?_cons_succ, List.getElem?_cons_zero] at s0 s1 s8
              clear us
              clear HPK HFK HF6K HEK
              go_wp2
              have HM := Lib.hid (HOK.out _ _ (st_five rfl rfl) (HE1).out (HF1).out)
              go_meet
              exact HM
            · have us := HPK.out _ (Fr.refl _ _)
              have s0 := us.cell 0
              have s1 := us.cell 1
              have s2 := us.cell 2
              have s3 := us.cell 3
              simp only [List.getElem?_toArray, List.getElem?_cons_succ, List.getElem?_cons_zero] at s0 s1 s2 s3
              clear us
              have s9 := HEK.out.reg_at hb5
              have s10 := HEK.out.reg_at hc5
              have bT1 : (0 : Int) ≤ (b : Int) := by omega
              have bT2 : (b : Int) < 4 := by omega
              have cT1 : (0 : Int) ≤ (c : Int) := by omega
              have cT2 : (c : Int) < 4 := by omega
              have HSu := Lib.hid (fun W => refSum13_any (HEK.out.reg b hb5) (HEK.out.reg c hc5) W)
              obtain ⟨v0, hv0⟩ : ∃ v0, (s.r b + s.r c) = v0 := ⟨_, rfl⟩
              rw [hv0] at HSu
              have Hv0 := Lib.hid hv0
              clear hv0
              obtain ⟨ft, hft⟩ : ∃ ft, fitI v0 = ft := ⟨_, rfl⟩
              rw [hft] at HSu
              have Hft := Lib.hid hft
              clear hft
              cases ft
              · simp only [Bool.false_eq_true, if_false] at HSu
                go_wp2
                go_quiet ((go_at_call 35; exact (HSu.out _).mono (fun _ _ h => ⟨h.1, _, h.2.symm⟩)))
                have fD := (Fr.refl No wc).drewN nq
                have HEVd := Lib.hid (HEK.out.fr fD)
                have HF6Vd := Lib.hid (HF6K.out.drewN nq)
                have HFVd := Lib.hid (HFK.out.drewN nq)
                have HPVd := Lib.hid (fun W (h : Fr (RT gc gr gd gw) (wc.drewN nq) W) => HPK.out W ((fD.weak (fun _ _ e => e.elim)).trans' h (fun _ _ e => e)))
                clear fD
                generalize wc.drewN nq = Vd at *
                clear HEK HF6K HFK HPK s0 s1 s2 s3 s9 s10
                have utVd := HPVd.out _ (Fr.refl _ _)
                have tVd0 := utVd.cell 0
                have tVd1 := utVd.cell 1
                have tVd2 := utVd.cell 2
                have tVd3 := utVd.cell 3
                simp only [List.getElem?_toArray, List.getElem?_cons_succ, List.getElem?_cons_zero] at tVd0 tVd1 tVd2 tVd3
                clear utVd
                have t9 := HEVd.out.reg_at hb5
                have t10 := HEVd.out.reg_at hc5
                have t11 := HEVd.out.reg_at ha4
                have z1 := (HEVd.out.frz a).1
                as_aux_lemma =>
                  have HM := Lib.hid (HBD.out 8 (Vd) (by decide) ((st_six rfl rfl rfl rfl).trans (by rw [show s.r b + s.r c = v0 from Hv0.out, Hft.out]; rfl)) (HF6Vd.out))
                  go_wp2
                  go_meet
                  exact HM
              · simp only [if_true] at HSu
                go_wp2
                go_quiet ((go_at_call 35; exact (HSu.out _).mono (fun _ _ h => ⟨h.1, _, h.2.symm⟩)))
                have fD := (Fr.refl No wc).drewN nq
                have HEVd := Lib.hid (HEK.out.fr fD)
                have HF6Vd := Lib.hid (HF6K.out.drewN nq)
                have HFVd := Lib.hid (HFK.out.drewN nq)
                have HPVd := Lib.hid (fun W (h : Fr (RT gc gr gd gw) (wc.drewN nq) W) => HPK.out W ((fD.weak (fun _ _ e => e.elim)).trans' h (fun _ _ e => e)))
                clear fD
                generalize wc.drewN nq = Vd at *
                clear HEK HF6K HFK HPK s0 s1 s2 s3 s9 s10
                have utVd := HPVd.out _ (Fr.refl _ _)
                have tVd0 := utVd.cell 0
                have tVd1 := utVd.cell 1
                have tVd2 := utVd.cell 2
                have tVd3 := utVd.cell 3
                simp only [List.getElem?_toArray, List.getElem?_cons_succ, List.getElem?_cons_zero] at tVd0 tVd1 tVd2 tVd3
                clear utVd
                have t9 := HEVd.out.reg_at hb5
                have t10 := HEVd.out.reg_at hc5
                have t11 := HEVd.out.reg_at ha4
                have z1 := (HEVd.out.frz a).1
                as_aux_lemma =>
                  obtain ⟨V1, hV1⟩ : ∃ V9, World.setCell Vd ⟨gr, a, none⟩ (.int .i64 v0) = V9 := ⟨_, rfl⟩
                  have HE1 := Lib.hid (HEVd.out.setR ha4 (v := v0) (by have h := of_decide_eq_true Hft.out; unfold I64; omega))
                  have HF1 := Lib.hid ((HF6Vd.out).setCell (p := ⟨gr, a, none⟩) (.inl (.inr (.inl rfl))) (.int .i64 v0))
                  rw [hV1] at HE1 HF1
                  rw [← Hv0.out] at HE1
                  clear HPVd HFVd HF6Vd HEVd
                  go_wp2
                  have HM := Lib.hid (HOK.out _ _ ((st_six rfl rfl rfl rfl).trans (by rw [show s.r b + s.r c = v0 from Hv0.out, Hft.out]; rfl)) (HE1).out (HF1).out)
                  go_meet
                  exact HM
            · have us := HPK.out _ (Fr.refl _ _)
              have s0 := us.cell 0
              have s1 := us.cell 1
              have s2 := us.cell 2
              have s3 := us.cell 3
              simp only [List.getElem?_toArray, List.getElem?_cons_succ, List.getElem?_cons_zero] at s0 s1 s2 s3
              clear us
              have s9 := HEK.out.reg_at hb5
              have s10 := HEK.out.reg_at hc5
              have bT1 : (0 : Int) ≤ (b : Int) := by omega
              have bT2 : (b : Int) < 4 := by omega
              have cT1 : (0 : Int) ≤ (c : Int) := by omega
              have cT2 : (c : Int) < 4 := by omega
              have HSu := Lib.hid (fun W => refSum13_any (HEK.out.reg b hb5) (HEK.out.reg c hc5) W)
              have HLs := Lib.hid (fun W => refLess13_any (HEK.out.reg b hb5) (HEK.out.reg c hc5) W)
              obtain ⟨v0, hv0⟩ : ∃ v0, (s.r b - s.r c) = v0 := ⟨_, rfl⟩
              rw [hv0] at HLs
              have Hv0 := Lib.hid hv0
              clear hv0
              obtain ⟨ft, hft⟩ : ∃ ft, fitI v0 = ft := ⟨_, rfl⟩
              rw [hft] at HLs
              have Hft := Lib.hid hft
              clear hft
              obtain ⟨v1, hv1⟩ : ∃ v1, (if fitI (s.r b + s.r c) = true then s.r b + s.r c else 0) = v1 := ⟨_, rfl⟩
              rw [hv1] at HSu
              clear hv1
              generalize fitI (s.r b + s.r c) = ft1 at HSu
              cases ft
              · simp only [Bool.false_eq_true, if_false] at HLs
                go_wp2
                go_quiet ((go_at_call 35; exact (HSu.out _).mono (fun _ _ h => ⟨h.1, _, h.2.symm⟩)))
                have fD := (Fr.refl No wc).drewN nq
                have HEVd := Lib.hid (HEK.out.fr fD)
                have HF6Vd := Lib.hid (HF6K.out.drewN nq)
                have HFVd := Lib.hid (HFK.out.drewN nq)
                have HPVd := Lib.hid (fun W (h : Fr (RT gc gr gd gw) (wc.drewN nq) W) => HPK.out W ((fD.weak (fun _ _ e => e.elim)).trans' h (fun _ _ e => e)))
                clear fD
                generalize wc.drewN nq = Vd at *
                clear HEK HF6K HFK HPK s0 s1 s2 s3 s9 s10
                have utVd := HPVd.out _ (Fr.refl _ _)
                have tVd0 := utVd.cell 0
                have tVd1 := utVd.cell 1
                have tVd2 := utVd.cell 2
                have tVd3 := utVd.cell 3
                simp only [List.getElem?_toArray, List.getElem?_cons_succ, List.getElem?_cons_zero] at tVd0 tVd1 tVd2 tVd3
                clear utVd
                have t9 := HEVd.out.reg_at hb5
                have t10 := HEVd.out.reg_at hc5
                have t11 := HEVd.out.reg_at ha4
                have z1 := (HEVd.out.frz a).1
                go_wp2
                go_quiet ((go_at_call 36; exact (HLs.out _).mono (fun _ _ h => ⟨h.1, _, h.2.symm⟩)))
                have fD := (Fr.refl No Vd).drewN nq
                have HEVe := Lib.hid (HEVd.out.fr fD)
                have HF6Ve := Lib.hid (HF6Vd.out.drewN nq)
                have HFVe := Lib.hid (HFVd.out.drewN nq)
                have HPVe := Lib.hid (fun W (h : Fr (RT gc gr gd gw) (Vd.drewN nq) W) => HPVd.out W ((fD.weak (fun _ _ e => e.elim)).trans' h (fun _ _ e => e)))
                clear fD
                generalize Vd.drewN nq = Ve at *
                clear HEVd HF6Vd HFVd HPVd tVd0 tVd1 tVd2 tVd3 t9 t10 t11 z1
                have utVe := HPVe.out _ (Fr.refl _ _)
                have tVe0 := utVe.cell 0
                have tVe1 := utVe.cell 1
                have tVe2 := utVe.cell 2
                have tVe3 := utVe.cell 3
                simp only [List.getElem?_toArray, List.getElem?_cons_succ, List.getElem?_cons_zero] at tVe0 tVe1 tVe2 tVe3
                clear utVe
                have t11 := HEVe.out.reg_at ha4
                have z1 := (HEVe.out.frz a).1
                as_aux_lemma =>
                  have HM := Lib.hid (HBD.out 8 (Ve) (by decide) ((st_seven rfl rfl rfl rfl).trans (by rw [show s.r b - s.r c = v0 from Hv0.out, Hft.out]; rfl)) (HF6Ve.out))
                  go_wp2
                  go_meet
                  exact HM
              · simp only [if_true] at HLs
                go_wp2
                go_quiet ((go_at_call 35; exact (HSu.out _).mono (fun _ _ h => ⟨h.1, _, h.2.symm⟩)))
                have fD := (Fr.refl No wc).drewN nq
                have HEVd := Lib.hid (HEK.out.fr fD)
                have HF6Vd := Lib.hid (HF6K.out.drewN nq)
                have HFVd := Lib.hid (HFK.out.drewN nq)
                have HPVd := Lib.hid (fun W (h : Fr (RT gc gr gd gw) (wc.drewN nq) W) => HPK.out W ((fD.weak (fun _ _ e => e.elim)).trans' h (fun _ _ e => e)))
                clear fD
                generalize wc.drewN nq = Vd at *
                clear HEK HF6K HFK HPK s0 s1 s2 s3 s9 s10
                have utVd := HPVd.out _ (Fr.refl _ _)
                have tVd0 := utVd.cell 0
                have tVd1 := utVd.cell 1
                have tVd2 := utVd.cell 2
                have tVd3 := utVd.cell 3
                simp only [List.getElem?_toArray, List.getElem?_cons_succ, List.getElem?_cons_zero] at tVd0 tVd1 tVd2 tVd3
                clear utVd
                have t9 := HEVd.out.reg_at hb5
                have t10 := HEVd.out.reg_at hc5
                have t11 := HEVd.out.reg_at ha4
                have z1 := (HEVd.out.frz a).1
                go_wp2
                go_quiet ((go_at_call 36; exact (HLs.out _).mono (fun _ _ h => ⟨h.1, _, h.2.symm⟩)))
                have fD := (Fr.refl No Vd).drewN nq
                have HEVe := Lib.hid (HEVd.out.fr fD)
                have HF6Ve := Lib.hid (HF6Vd.out.drewN nq)
                have HFVe := Lib.hid (HFVd.out.drewN nq)
                have HPVe := Lib.hid (fun W (h : Fr (RT gc gr gd gw) (Vd.drewN nq) W) => HPVd.out W ((fD.weak (fun _ _ e => e.elim)).trans' h (fun _ _ e => e)))
                clear fD
                generalize Vd.drewN nq = Ve at *
                clear HEVd HF6Vd HFVd HPVd tVd0 tVd1 tVd2 tVd3 t9 t10 t11 z1
                have utVe := HPVe.out _ (Fr.refl _ _)
                have tVe0 := utVe.cell 0
                have tVe1 := utVe.cell 1
                have tVe2 := utVe.cell 2
                have tVe3 := utVe.cell 3
                simp only [List.getElem?_toArray, List.getElem?_cons_succ, List.getElem?_cons_zero] at tVe0 tVe1 tVe2 tVe3
                clear utVe
                have t11 := HEVe.out.reg_at ha4
                have z1 := (HEVe.out.frz a).1
                as_aux_lemma =>
                  obtain ⟨V1, hV1⟩ : ∃ V9, World.setCell Ve ⟨gr, a, none⟩ (.int .i64 v0) = V9 := ⟨_, rfl⟩
                  have HE1 := Lib.hid (HEVe.out.setR ha4 (v := v0) (by have h := of_decide_eq_true Hft.out; unfold I64; omega))
                  have HF1 := Lib.hid ((HF6Ve.out).setCell (p := ⟨gr, a, none⟩) (.inl (.inr (.inl rfl))) (.int .i64 v0))
                  rw [hV1] at HE1 HF1
                  rw [← Hv0.out] at HE1
                  clear HPVe HFVe HF6Ve HEVe
                  go_wp2
                  have HM := Lib.hid (HOK.out _ _ ((st_seven rfl rfl rfl rfl).trans (by rw [show s.r b - s.r c = v0 from Hv0.out, Hft.out]; rfl)) (HE1).out (HF1).out)
                  go_meet
                  exact HM
            · have us := HPK.out _ (Fr.refl _ _)
              have s0 := us.cell 0
              have s1 := us.cell 1
              have s8 := us.cell 8
              simp only [List.getElem?_toArray, List.getElem?_cons_succ, List.getElem?_cons_zero] at s0 s1 s8
              clear us
              have s9 := HEK.out.reg_at ha4
              by_cases hx : s.r a < xx
              · have q1 : decide (s.r a < xx) = true := decide_eq_true hx
                have hx' := Lib.hid (show s.r a < xx from hx)
                clear hx
                go_wp2
                go_quiet (fail)
                have HD6 := Lib.hid (HF6K.out.drewN nq)
                have HM := Lib.hid (HBD.out 7 (wc.drewN nq) (by decide) ((st_eight rfl rfl).trans (if_pos (c := s.r a < xx) (by have := hx'.out; omega))) (HD6.out))
                go_wp2
                go_meet
                exact HM
              · have q1 : decide (s.r a < xx) = false := decide_eq_false hx
                have HE1 := Lib.hid (fun N => HEK.out.fr ((Fr.refl No wc).drewN N))
                have HF1 := Lib.hid (fun N => HF6K.out.drewN N)
                have hx' := Lib.hid (show ¬ s.r a < xx from hx)
                clear HPK HFK HF6K HEK hx
                go_wp2
                go_quiet (fail)
                go_wp2
                have HM := Lib.hid (HOK.out _ _ ((st_eight rfl rfl).trans (if_neg (c := s.r a < xx) (by have := hx'.out; omega))) (Lib.hid (HE1.out nq)).out (Lib.hid (HF1.out nq)).out)
                go_meet
                exact HM
          case rest =>
            clear HEK HF6K HFK HPK HOK HBD HKy Hka Hla
            rcases hcut.out with ⟨s2, rfl, hs2, hre2, hf2⟩ | ⟨e, rfl, he, hs2, hf2⟩
            · have HN := Lib.hid (Hnext.out _ hs2)
              have Hre2 := Lib.hid hre2
              have Hf2 := Lib.hid hf2
              clear hs2 hre2 hf2 hcut Hnext Hbad
              go_wp2
              go_roundw
              case rel => exact ⟨i + 1, _, by omega, by go_num, HN, Hre2, Hf2⟩
              case measure => simp [intOf]; omega
            · have e5 : ((e : Int) != 0) = true := by rw [bne_iff_ne]; omega
              have ub := HBT.out _ (HFT.out _ hf2)
              have b0 := ub.cell 0
              have b1 := ub.cell 1
              have b2 := ub.cell 2
              have b3 := ub.cell 3
              simp only [List.getElem?_toArray, List.getElem?_cons_succ, List.getElem?_cons_zero] at b0 b1 b2 b3
              clear ub
              have cz := HZT.out _ (HFT.out _ hf2)
              have hst := st_out hZ9.out cz (c := (e : Int)) (a := i) (r0 := r 0) (r1 := r 1) (r2 := r 2) (r3 := r 3) (v1 := .slice none 0 0) (v2 := .slice none 0 0) (v3 := .slice none 0 0) rfl rfl rfl
              have hbF := bk_row12 cz #[.int .i64 (e : Int), .int .i64 i, .int .i64 (r 0), .int .i64 (r 1), .int .i64 (r 2), .int .i64 (r 3), .slice none 0 0, .slice none 0 0, .slice none 0 0]
              have fF := fr_row12 (HNo.out _ (HFT.out _ hf2)) (g := q + 1 + 1) (.inr (by have := Hq.out; omega)) #[.int .i64 (e : Int), .int .i64 i, .int .i64 (r 0), .int .i64 (r 1), .int .i64 (r 2), .int .i64 (r 3), .slice none 0 0, .slice none 0 0, .slice none 0 0]
              obtain ⟨W3, hW3⟩ : ∃ W3, W3 = World.setRow (wc) (q + 1 + 1) #[.int .i64 (e : Int), .int .i64 i, .int .i64 (r 0), .int .i64 (r 1), .int .i64 (r 2), .int .i64 (r 3), .slice none 0 0, .slice none 0 0, .slice none 0 0] := ⟨_, rfl⟩
              rw [← hW3] at hst hbF fF
              have Hst := Lib.hid hst
              have Hld := Lib.hid (ld_out hbF)
              have HfF := Lib.hid fF
              have Hpo : Hid (po = .fail (e : Int) i r) := Lib.hid ((HPO.out).symm.trans (Hbad.out _ (hs2)))
              clear cz hst hbF fF hW3
              clear hs2 hf2 hcut Hnext Hbad
              go_wp2_with ((with_reducible refine wpl_st ?_ ?_ ?_ Hst.out ?_); (· rfl); (· rfl); (· rfl); simp only [Act.put])
              exact bodyPost_ret (cell_result Tryz.results14 Hld.out rfl) rfl (by rw [Hpo.out]; exact OutC.fail (e : Int) i r HfF.out)
      · have Hpo : Hid (po = ⟨0, 0, s.r, plainOf s.rd, plainOf s.wt, chgsOf s.wt s.m⟩) := Lib.hid (HPO.out.symm.trans (HrunO.out s (by
          have h := hrun.out
          rw [List.take_of_length_le (by rw [Hnc.out]; omega)] at h
          exact h)))
        obtain ⟨n1, hn1⟩ : ∃ n, (plainOf s.rd).length = n := ⟨_, rfl⟩
        obtain ⟨n2, hn2⟩ : ∃ n, (plainOf s.wt).length = n := ⟨_, rfl⟩
        have HP1 := Lib.hid (fun W (h : Fr No wr W) => refPlain13_own gd s.rd n1 hn1 W (hre.out.rd.fr h (fun e => e)))
        have HP2 := Lib.hid (fun W (h : Fr No wr W) => refPlain13_own gw s.wt n2 hn2 W (hre.out.wt.fr h (fun e => e)))
        have Hn1 := Lib.hid hn1
        have Hn2 := Lib.hid hn2
        have hbz := HZT.out _ (HFT.out _ hfr.out)
        have HbZ := Lib.hid (fun W (h : Fr No wr W) => hbz.fr h (fun e => e))
        have HS0 : Hid (∀ W, Fr No wr W → W.cell? ⟨gr, 0, none⟩ = some (.int .i64 (s.r 0)) ∧ W.cell? ⟨gr, 1, none⟩ = some (.int .i64 (s.r 1)) ∧ W.cell? ⟨gr, 2, none⟩ = some (.int .i64 (s.r 2)) ∧ W.cell? ⟨gr, 3, none⟩ = some (.int .i64 (s.r 3))) := Lib.hid (fun W h => ⟨(hre.out.fr h).reg_at (by decide), (hre.out.fr h).reg_at (by decide), (hre.out.fr h).reg_at (by decide), (hre.out.fr h).reg_at (by decide)⟩)
        have Hfw := Lib.hid (HNo.out _ (HFT.out _ hfr.out))
        have Hgs : Hid (gc < wr.heap.size ∧ gw < wr.heap.size ∧ q + 1 + 1 < wr.heap.size ∧ w.heap.size ≤ wr.heap.size) := Lib.hid ⟨hre.out.mp.lt, hre.out.wt.lt, hbz.lt, (HNo.out _ (HFT.out _ hfr.out)).size⟩
        have hnc9 : ¬ (i : Int) < (nc : Int) := by omega
        clear hn1 hn2 hbz hrun
        go_wp2_with fail
        refine wp_region_held_drew (S := fun W => W.cell? ⟨gr, 0, none⟩ = some (.int .i64 (s.r 0)) ∧ W.cell? ⟨gr, 1, none⟩ = some (.int .i64 (s.r 1)) ∧ W.cell? ⟨gr, 2, none⟩ = some (.int .i64 (s.r 2)) ∧ W.cell? ⟨gr, 3, none⟩ = some (.int .i64 (s.r 3))) (by kernel_rfl) (HS0.out _ (Fr.refl No wr).drew) (fun hHeld => ?_)
        refine any_take 233 (.agg #[.int .i64 (s.r 0), .int .i64 (s.r 1), .int .i64 (s.r 2), .int .i64 (s.r 3)]) (i := 0) rfl rfl (by kernel_rfl) (by kernel_rfl) (by kernel_rfl) (fun _ _ _ h => h) (by rfl) (by intro w hSw; (try dsimp only at hSw); go_simp; try with_reducible rfl) (by assumption) ?_
        simp only [Act.put, List.setIfInBounds_toArray, List.set_cons_zero, List.set_cons_succ]
        have G0 : Hid (Fr No wr wr.drew) := Lib.hid (Fr.refl No wr).drew
        refine wpAnyH_ready (rs := [1, 4]) (by kernel_rfl) (by simp) ?_
        refine AllReadyH.cons rfl (fun K' hK => ?_) (AllReadyH.cons rfl (fun K' hK => ?_) AllReadyH.nil)
        · refine oneH_call 234 (f := 37) (args := #[.pointer (some ⟨gd, 0, none⟩)]) rfl (by rfl) (by go_simp) (HP1.out wr.drew G0.out) ?_
          rintro _ v1 ⟨A1, c1, rfl, ho1, hf1⟩
          simp only [Act.put, List.setIfInBounds_toArray, List.set_cons_zero, List.set_cons_succ]
          have g1 : Hid (Fr No wr.drew v1) := Lib.hid hf1
          have Ho1 := Lib.hid (own_base ho1 (B' := wr.heap.size) G0.out.size)
          clear ho1 hf1
          have G1 := Lib.hid (G0.out.trans' g1.out (fun _ _ e => e))
          refine hK.out _ _ (HS0.out _ G1.out) (fun hHeld => ?_)
          clear hK
          refine wpAnyH_ready (rs := [2, 4]) (by kernel_rfl) (by simp) ?_
          refine AllReadyH.cons rfl (fun K' hK => ?_) (AllReadyH.cons rfl (fun K' hK => ?_) AllReadyH.nil)
          · refine oneH_call 235 (f := 37) (args := #[.pointer (some ⟨gw, 0, none⟩)]) rfl (by rfl) (by go_simp) (HP2.out v1 G1.out) ?_
            rintro _ v2 ⟨A2, c2, rfl, ho2, hf2⟩
            simp only [Act.put, List.setIfInBounds_toArray, List.set_cons_zero, List.set_cons_succ]
            have g2 : Hid (Fr No v1 v2) := Lib.hid hf2
            have Ho2 := Lib.hid (own_base ho2 (B' := wr.heap.size) G1.out.size)
            clear ho2 hf2
            have G2 := Lib.hid (G1.out.trans' g2.out (fun _ _ e => e))
            refine hK.out _ _ (HS0.out _ G2.out) (fun hHeld => ?_)
            clear hK
            refine any_take 236 (.agg #[.int .i64 0, .int .i64 0, .int .i64 (s.r 0), .int .i64 (s.r 1), .int .i64 (s.r 2), .int .i64 (s.r 3), .slice A1 n1 c1, .slice A2 n2 c2, .slice none 0 0]) (i := 3) rfl rfl (by kernel_rfl) (by kernel_rfl) (by kernel_rfl) (fun _ _ _ h => h) (by rfl) (by intro w hSw; (try dsimp only at hSw); go_simp; try with_reducible rfl) (by assumption) ?_
            simp only [Act.put, List.setIfInBounds_toArray, List.set_cons_zero, List.set_cons_succ]
            refine wpAnyH_ready (rs := [4]) (by kernel_rfl) (by simp) ?_
            refine AllReadyH.cons rfl (fun K' hK => ?_) AllReadyH.nil
            obtain ⟨P, hPd⟩ : ∃ P, v2.heap.size = P := ⟨_, rfl⟩
            refine oneH_val 27 rfl (by rfl) (exec_alloc_out _ v2 P hPd) ?_
            simp only [Act.put, List.setIfInBounds_toArray, List.set_cons_zero, List.set_cons_succ]
            have g3' : Fr No v2 (v2.alloc (.cells #[.int .i64 0, .int .i64 0, .int .i64 0, .int .i64 0, .int .i64 0, .int .i64 0, .slice none 0 0, .slice none 0 0, .slice none 0 0] 39)) := (Fr.refl _ _).alloc _
            have bP0 := Bk.made v2 39 #[.int .i64 0, .int .i64 0, .int .i64 0, .int .i64 0, .int .i64 0, .int .i64 0, .slice none 0 0, .slice none 0 0, .slice none 0 0]
            rw [hPd] at bP0
            generalize v2.alloc (.cells #[.int .i64 0, .int .i64 0, .int .i64 0, .int .i64 0, .int .i64 0, .int .i64 0, .slice none 0 0, .slice none 0 0, .slice none 0 0] 39) = v3 at *
            have hP9 : wr.heap.size ≤ P := by rw [← hPd]; exact G2.out.size
            have HP9 := Lib.hid hP9
            have g3 := Lib.hid g3'
            have HbP3 := Lib.hid bP0
            clear bP0 g3' hPd hP9
            have G3 := Lib.hid (G2.out.trans' g3.out (fun _ _ e => e))
            refine hK.out _ _ (HS0.out _ G3.out) (fun hHeld => ?_)
            clear hK
            have bP := HbP3.out.fr (Fr.refl No _) (fun e => e)
            have o1 := own_fr Ho1.out ((g2.out).trans' g3.out (fun _ _ e => e)) (fun _ _ e => e)
            have o2 := own_fr Ho2.out (g3.out) (fun _ _ e => e)
            have st6 := st_out (c := 0) (a := 0) (r0 := s.r 0) (r1 := s.r 1) (r2 := s.r 2) (r3 := s.r 3) (v1 := .slice A1 n1 c1) (v2 := .slice A2 n2 c2) (v3 := .slice none 0 0) rfl bP rfl rfl rfl
            have bP2 := bk_row12 bP #[.int .i64 0, .int .i64 0, .int .i64 (s.r 0), .int .i64 (s.r 1), .int .i64 (s.r 2), .int .i64 (s.r 3), .slice A1 n1 c1, .slice A2 n2 c2, .slice none 0 0]
            have x1 := fr_row12 (Fr.refl (fun k => k = P) v3) (g := P) (.inl rfl) #[.int .i64 0, .int .i64 0, .int .i64 (s.r 0), .int .i64 (s.r 1), .int .i64 (s.r 2), .int .i64 (s.r 3), .slice A1 n1 c1, .slice A2 n2 c2, .slice none 0 0]
            have q1 := own_fr o1 x1 (fun k hk e => by subst e; exact own_apart o1 bP (by decide) hk)
            have q2 := own_fr o2 x1 (fun k hk e => by subst e; exact own_apart o2 bP (by decide) hk)
            have fV : Fr No wr _ := fr_row12 G3.out (g := P) (.inr HP9.out) #[.int .i64 0, .int .i64 0, .int .i64 (s.r 0), .int .i64 (s.r 1), .int .i64 (s.r 2), .int .i64 (s.r 3), .slice A1 n1 c1, .slice A2 n2 c2, .slice none 0 0]
            obtain ⟨V, hV⟩ : ∃ V, World.setRow v3 P #[.int .i64 0, .int .i64 0, .int .i64 (s.r 0), .int .i64 (s.r 1), .int .i64 (s.r 2), .int .i64 (s.r 3), .slice A1 n1 c1, .slice A2 n2 c2, .slice none 0 0] = V := ⟨_, rfl⟩
            rw [hV] at st6 bP2 x1 q1 q2 fV
            refine any_store12 (i := 5) (by kernel_rfl) rfl rfl (by rfl) (exec_st rfl rfl st6) (HS0.out _ fV) ?_
            refine wpAnyH_done (by kernel_rfl) ?_ _
            have HbP := Lib.hid bP2
            have HO1 := Lib.hid q1
            have HO2 := Lib.hid q2
            have hgs := Hgs.out
            have hp9 := HP9.out
            have HWt := Lib.hid (fun W (h : Fr (fun k => k = P) V W) => (hre.out.wt.fr fV (fun e => e)).fr h (by omega))
            have HMp := Lib.hid (fun W (h : Fr (fun k => k = P) V W) => (hre.out.mp.fr fV (fun e => e)).fr h (by omega))
            have HbZV := Lib.hid (fun W (h : Fr (fun k => k = P) V W) => (HbZ.out V fV).fr h (by omega))
            have HfV := Lib.hid (Hfw.out.trans' fV (fun _ _ e => e))
            have HPw : Hid (w.heap.size ≤ P) := Lib.hid (by omega)
            have HVw : Hid (w.heap.size ≤ wr.heap.size ∧ w.heap.size ≤ V.heap.size) := Lib.hid ⟨by omega, by have := fV.size; omega⟩
            clear hHeld bP o1 o2 st6 bP2 x1 q1 q2 fV hV hgs hp9 g1 G1 g2 G2 g3 G3 G0 HbP3 Ho1 Ho2 HP9 HP1 HP2 HbZ HS0 hre hfr a0 Hgs Hfw
            as_aux_lemma =>
              go_wp2
              go_loopw [28] (fun kv wq => ∃ (j n : Nat) (A : Option Addr) (c9 : Nat), j ≤ 1000 ∧ n ≤ j ∧ kv = .int .i64 j ∧ Hid (n = (chgsTo s.wt s.m j).length) ∧ Hid (Bk wq P 39 #[.int .i64 0, .int .i64 0, .int .i64 (s.r 0), .int .i64 (s.r 1), .int .i64 (s.r 2), .int .i64 (s.r 3), .slice A1 n1 c1, .slice A2 n2 c2, .slice A n c9]) ∧ Hid (wq.ownsRow V.heap.size 57 3 (.slice A n c9) n ((chgsTo s.wt s.m j).flatMap Chg.cells)) ∧ Hid (Fr (fun k => k = P) V wq)) (fun kv _ => 1000 - (intOf kv).toNat)
              case atStart => exact ⟨0, 0, none, 0, by omega, by omega, rfl, Lib.hid rfl, HbP, Lib.hid (World.ownsRow_nil _ _ _ _), Lib.hid (Fr.refl _ _)⟩
              case round =>
                obtain ⟨j, n, A, c9, hj, hnj, rfl, Hn, hbk, hown, hfP⟩ := hrel
                by_cases hlt : j < 1000
                · have qT1 : (0 : Int) ≤ (j : Int) := by omega
                  have qT2 : (j : Int) < 1000 := by omega
                  have x0 := (HWt.out wr hfP.out).cell j
                  rw [flags_at _ _ _ hlt] at x0
                  have x1 := (HMp.out wr hfP.out).is13 hlt
                  cases hw : s.wt j
                  · rw [hw] at x0
                    have Hs : Hid (chgsTo s.wt s.m (j + 1) = chgsTo s.wt s.m j) := Lib.hid (chgs_stay hw)
                    clear hw x1
                    go_wp2
                    go_roundw
                    case rel => exact ⟨j + 1, n, A, c9, by omega, by omega, by go_num, Lib.hid (by rw [Hs.out]; exact Hn.out), hbk, Lib.hid (by rw [Hs.out]; exact hown.out), hfP⟩
                    case measure => simp [intOf]; omega
                  · rw [hw] at x0
                    have hbl : P < wr.heap.size := hbk.out.lt
                    cases hi9 : isM s.m j
                    · have hvj : valM s.m j = 0 := valM_no hi9
                      rw [hi9] at x1
                      have hcs := chgs_step (m := s.m) hw (b := true) (v := 0) (by rw [hi9]; rfl) hvj
                      have HL9 : Hid (n + 1 = (chgsTo s.wt s.m (j + 1)).length) := Lib.hid (by rw [hcs.2, Hn.out])
                      have HC9 := Lib.hid hcs.1
                      generalize (chgsTo s.wt s.m j).flatMap Chg.cells = xs at *
                      have f0 : Fr (fun k => k = P) V (wr.alloc (.cells #[.int .i64 (j : Int), .bool true, .int .i64 0] 57)) := hfP.out.alloc _
                      have y1 := (HMp.out _ f0).is13 hlt
                      rw [hi9] at y1
                      have b1 := hbk.out.alloc (.cells #[.int .i64 (j : Int), .bool true, .int .i64 0] 57)
                      have o1 := hown.out.alloc (.cells #[.int .i64 (j : Int), .bool true, .int .i64 0] 57)
                      have k8 := b1.cell 8
                      simp only [List.getElem?_toArray, List.getElem?_cons_succ, List.getElem?_cons_zero] at k8
                      have hne9 : (Value.slice A n c9).ownBlock ≠ some P := own_apart o1 b1 (by decide)
                      have hsz9 : V.heap.size ≤ (wr.alloc (.cells #[.int .i64 (j : Int), .bool true, .int .i64 0] 57)).heap.size := by rw [World.size_alloc]; have := hfP.out.size; omega
                      have f1 : Fr (fun k => k = P) V (wr.alloc (.cells #[.int .i64 (j : Int), .bool true, .int .i64 0] 57)) := hfP.out.alloc _
                      have Hb1 := Lib.hid b1
                      have Hlt9 := Lib.hid (fun k e => (o1.lt k e).1)
                      have Hf1 := Lib.hid f1
                      have Hne := Lib.hid hne9
                      clear b1 f0 f1 hne9 hcs hw hi9 hvj hbk hown hfP Hn
                      go_wp2_with (first
                        | (at_builtin
                           refine wpList_append_elem rfl _ _ _ rfl V.heap.size 57 (.agg #[.int .i64 0, .bool false, .int .i64 0]) 3 24 Tryz.underlying37 info_chg rfl (by omega) (.slice A n c9) n xs #[.int .i64 (j : Int), .bool true, .int .i64 0] rfl (by intro u hu; simp at hu; rcases hu with rfl | rfl | rfl <;> rfl) rfl (wr.heap.size + 1) (by simp) rfl o1 (by unfold maxLen; omega) (by omega) hsz9 ?_
                           intro A3 c3 w3 ho3 hf3 hg3
                           obtain ⟨k9, z9, HB4, HO4, HF4⟩ := app_out13 Hb1.out Hne.out Hlt9.out Hf1.out ho3 hf3
                           have hs3 := hf3.size
                           clear ho3 hf3 hg3))
                      go_roundw
                      case rel => exact ⟨j + 1, n + 1, A3, c3, by omega, by omega, by go_num, HL9, HB4, Lib.hid (by rw [HC9.out]; exact HO4.out), HF4⟩
                      case measure => simp [intOf]; omega
                    · have x2 := (HMp.out wr hfP.out).val13 hlt hi9
                      obtain ⟨vj, hvj⟩ : ∃ vj, valM s.m j = vj := ⟨_, rfl⟩
                      rw [hvj] at x2
                      rw [hi9] at x1
                      have hcs := chgs_step (m := s.m) hw (b := false) (v := vj) (by rw [hi9]; rfl) hvj
                      have HL9 : Hid (n + 1 = (chgsTo s.wt s.m (j + 1)).length) := Lib.hid (by rw [hcs.2, Hn.out])
                      have HC9 := Lib.hid hcs.1
                      generalize (chgsTo s.wt s.m j).flatMap Chg.cells = xs at *
                      have f0 : Fr (fun k => k = P) V (wr.alloc (.cells #[.int .i64 (j : Int), .bool false, .int .i64 0] 57)) := hfP.out.alloc _
                      have y1 := (HMp.out _ f0).is13 hlt
                      rw [hi9] at y1
                      have y2 := (HMp.out _ f0).val13 hlt hi9
                      rw [hvj] at y2
                      have b1 := hbk.out.alloc (.cells #[.int .i64 (j : Int), .bool false, .int .i64 vj] 57)
                      have o1 := hown.out.alloc (.cells #[.int .i64 (j : Int), .bool false, .int .i64 vj] 57)
                      have k8 := b1.cell 8
                      simp only [List.getElem?_toArray, List.getElem?_cons_succ, List.getElem?_cons_zero] at k8
                      have hne9 : (Value.slice A n c9).ownBlock ≠ some P := own_apart o1 b1 (by decide)
                      have hsz9 : V.heap.size ≤ (wr.alloc (.cells #[.int .i64 (j : Int), .bool false, .int .i64 vj] 57)).heap.size := by rw [World.size_alloc]; have := hfP.out.size; omega
                      have f1 : Fr (fun k => k = P) V (wr.alloc (.cells #[.int .i64 (j : Int), .bool false, .int .i64 vj] 57)) := hfP.out.alloc _
                      have Hb1 := Lib.hid b1
                      have Hlt9 := Lib.hid (fun k e => (o1.lt k e).1)
                      have Hf1 := Lib.hid f1
                      have Hne := Lib.hid hne9
                      clear b1 f0 f1 hne9 hcs hw hi9 hvj hbk hown hfP Hn
                      go_wp2_with (first
                        | (at_builtin
                           refine wpList_append_elem rfl _ _ _ rfl V.heap.size 57 (.agg #[.int .i64 0, .bool false, .int .i64 0]) 3 24 Tryz.underlying37 info_chg rfl (by omega) (.slice A n c9) n xs #[.int .i64 (j : Int), .bool false, .int .i64 vj] rfl (by intro u hu; simp at hu; rcases hu with rfl | rfl | rfl <;> rfl) rfl (wr.heap.size + 1) (by simp) rfl o1 (by unfold maxLen; omega) (by omega) hsz9 ?_
                           intro A3 c3 w3 ho3 hf3 hg3
                           obtain ⟨k9, z9, HB4, HO4, HF4⟩ := app_out13 Hb1.out Hne.out Hlt9.out Hf1.out ho3 hf3
                           have hs3 := hf3.size
                           clear ho3 hf3 hg3))
                      go_roundw
                      case rel => exact ⟨j + 1, n + 1, A3, c3, by omega, by omega, by go_num, HL9, HB4, Lib.hid (by rw [HC9.out]; exact HO4.out), HF4⟩
                      case measure => simp [intOf]; omega
                · obtain rfl : j = 1000 := by omega
                  have hz0 := (HbZV.out wr hfP.out)
                  have hst := st_out hZ9.out hz0 (c := 0) (a := 0) (r0 := s.r 0) (r1 := s.r 1) (r2 := s.r 2) (r3 := s.r 3) (v1 := .slice A1 n1 c1) (v2 := .slice A2 n2 c2) (v3 := .slice A n c9) rfl rfl rfl
                  have hld := ld_out hbk.out
                  have hbF := bk_row12 hz0 #[.int .i64 0, .int .i64 0, .int .i64 (s.r 0), .int .i64 (s.r 1), .int .i64 (s.r 2), .int .i64 (s.r 3), .slice A1 n1 c1, .slice A2 n2 c2, .slice A n c9]
                  have o1 := own_fr HO1.out hfP.out (fun k hk e => by subst e; exact own_apart HO1.out HbP.out (by decide) hk)
                  have o2 := own_fr HO2.out hfP.out (fun k hk e => by subst e; exact own_apart HO2.out HbP.out (by decide) hk)
                  have fq := fr_row12 (Fr.refl (fun k => k = q + 1 + 1) wr) (g := q + 1 + 1) (.inl rfl) #[.int .i64 0, .int .i64 0, .int .i64 (s.r 0), .int .i64 (s.r 1), .int .i64 (s.r 2), .int .i64 (s.r 3), .slice A1 n1 c1, .slice A2 n2 c2, .slice A n c9]
                  have p1 := own_fr o1 fq (fun k hk e => by subst e; exact own_apart o1 hz0 (by decide) hk)
                  have p2 := own_fr o2 fq (fun k hk e => by subst e; exact own_apart o2 hz0 (by decide) hk)
                  have p3 := own_fr hown.out fq (fun k hk e => by subst e; exact own_apart hown.out hz0 (by decide) hk)
                  have fF := fr_row12 (HfV.out.trans' hfP.out (fun k hk e => by have h1 := HPw.out; have e : k = P := e; omega)) (g := q + 1 + 1) (.inr (by have := Hq.out; omega)) #[.int .i64 0, .int .i64 0, .int .i64 (s.r 0), .int .i64 (s.r 1), .int .i64 (s.r 2), .int .i64 (s.r 3), .slice A1 n1 c1, .slice A2 n2 c2, .slice A n c9]
                  obtain ⟨W3, hW3⟩ : ∃ W3, W3 = World.setRow wr (q + 1 + 1) #[.int .i64 0, .int .i64 0, .int .i64 (s.r 0), .int .i64 (s.r 1), .int .i64 (s.r 2), .int .i64 (s.r 3), .slice A1 n1 c1, .slice A2 n2 c2, .slice A n c9] := ⟨_, rfl⟩
                  rw [← hW3] at hst hbF fF p1 p2 p3
                  have Hst := Lib.hid hst
                  have Hld := Lib.hid hld
                  have Hlf := Lib.hid (ld_out hbF)
                  have Hn3 : Hid ((chgsOf s.wt s.m).length = n) := Lib.hid Hn.out.symm
                  have Hend : Hid (OutC po w (.returned (.agg #[.int .i64 0, .int .i64 0, .int .i64 (s.r 0), .int .i64 (s.r 1), .int .i64 (s.r 2), .int .i64 (s.r 3), .slice A1 n1 c1, .slice A2 n2 c2, .slice A n c9])) W3) := Lib.hid (by
                    rw [Hpo.out]
                    refine ⟨⟨⟨0, 0, s.r, plainOf s.rd, plainOf s.wt, chgsOf s.wt s.m⟩, A1, c1, A2, c2, A, c9⟩, ?_, rfl, ⟨Sl.ofOwn p1, Sl.ofOwn p2, Sl.ofOwn p3⟩, fun ad h => ?_, fF⟩
                    · simp only [Otc.agg, Hn1.out, Hn2.out, Hn3.out]
                    · have h1 := HVw.out
                      rcases h with h | h | h
                      · have h : A1 = some ad := h
                        subst h
                        have h2 := (p1.lt ad.block rfl).1
                        omega
                      · have h : A2 = some ad := h
                        subst h
                        have h2 := (p2.lt ad.block rfl).1
                        omega
                      · have h : A = some ad := h
                        subst h
                        have h2 := (p3.lt ad.block rfl).1
                        omega)
                  clear hst hld hbF o1 o2 fq p1 p2 p3 fF hW3 hz0 hbk hown hfP Hn
                  go_wp2_with (first | ((with_reducible refine wpl_ld ?_ ?_ Hld.out ?_); (· rfl); (· rfl); simp only [Act.put]) | ((with_reducible refine wpl_st ?_ ?_ ?_ Hst.out ?_); (· rfl); (· rfl); (· rfl); simp only [Act.put]))
                  exact bodyPost_ret (cell_result Tryz.results14 Hlf.out rfl) rfl Hend.out
          · obtain ⟨P, hPd⟩ : ∃ P, v1.heap.size = P := ⟨_, rfl⟩
            refine oneH_val 27 rfl (by rfl) (exec_alloc_out _ v1 P hPd) ?_
            simp only [Act.put, List.setIfInBounds_toArray, List.set_cons_zero, List.set_cons_succ]
            have g2' : Fr No v1 (v1.alloc (.cells #[.int .i64 0, .int .i64 0, .int .i64 0, .int .i64 0, .int .i64 0, .int .i64 0, .slice none 0 0, .slice none 0 0, .slice none 0 0] 39)) := (Fr.refl _ _).alloc _
            have bP0 := Bk.made v1 39 #[.int .i64 0, .int .i64 0, .int .i64 0, .int .i64 0, .int .i64 0, .int .i64 0, .slice none 0 0, .slice none 0 0, .slice none 0 0]
            rw [hPd] at bP0
            generalize v1.alloc (.cells #[.int .i64 0, .int .i64 0, .int .i64 0, .int .i64 0, .int .i64 0, .int .i64 0, .slice none 0 0, .slice none 0 0, .slice none 0 0] 39) = v2 at *
            have hP9 : wr.heap.size ≤ P := by rw [← hPd]; exact G1.out.size
            have HP9 := Lib.hid hP9
            have g2 := Lib.hid g2'
            have HbP2 := Lib.hid bP0
            clear bP0 g2' hPd hP9
            have G2 := Lib.hid (G1.out.trans' g2.out (fun _ _ e => e))
            refine hK.out _ _ (HS0.out _ G2.out) (fun hHeld => ?_)
            clear hK
            refine wpAnyH_ready (rs := [2]) (by kernel_rfl) (by simp) ?_
            refine AllReadyH.cons rfl (fun K' hK => ?_) AllReadyH.nil
            refine oneH_call 235 (f := 37) (args := #[.pointer (some ⟨gw, 0, none⟩)]) rfl (by rfl) (by go_simp) (HP2.out v2 G2.out) ?_
            rintro _ v3 ⟨A2, c2, rfl, ho2, hf2⟩
            simp only [Act.put, List.setIfInBounds_toArray, List.set_cons_zero, List.set_cons_succ]
            have g3 : Hid (Fr No v2 v3) := Lib.hid hf2
            have Ho2 := Lib.hid (own_base ho2 (B' := wr.heap.size) G2.out.size)
            clear ho2 hf2
            have G3 := Lib.hid (G2.out.trans' g3.out (fun _ _ e => e))
            refine hK.out _ _ (HS0.out _ G3.out) (fun hHeld => ?_)
            clear hK
            refine any_take 236 (.agg #[.int .i64 0, .int .i64 0, .int .i64 (s.r 0), .int .i64 (s.r 1), .int .i64 (s.r 2), .int .i64 (s.r 3), .slice A1 n1 c1, .slice A2 n2 c2, .slice none 0 0]) (i := 3) rfl rfl (by kernel_rfl) (by kernel_rfl) (by kernel_rfl) (fun _ _ _ h => h) (by rfl) (by intro w hSw; (try dsimp only at hSw); go_simp; try with_reducible rfl) (by assumption) ?_
            simp only [Act.put, List.setIfInBounds_toArray, List.set_cons_zero, List.set_cons_succ]
            have bP := HbP2.out.fr (g3.out) (fun e => e)
            have o1 := own_fr Ho1.out ((g2.out).trans' g3.out (fun _ _ e => e)) (fun _ _ e => e)
            have o2 := own_fr Ho2.out (Fr.refl No _) (fun _ _ e => e)
            have st6 := st_out (c := 0) (a := 0) (r0 := s.r 0) (r1 := s.r 1) (r2 := s.r 2) (r3 := s.r 3) (v1 := .slice A1 n1 c1) (v2 := .slice A2 n2 c2) (v3 := .slice none 0 0) rfl bP rfl rfl rfl
            have bP2 := bk_row12 bP #[.int .i64 0, .int .i64 0, .int .i64 (s.r 0), .int .i64 (s.r 1), .int .i64 (s.r 2), .int .i64 (s.r 3), .slice A1 n1 c1, .slice A2 n2 c2, .slice none 0 0]
            have x1 := fr_row12 (Fr.refl (fun k => k = P) v3) (g := P) (.inl rfl) #[.int .i64 0, .int .i64 0, .int .i64 (s.r 0), .int .i64 (s.r 1), .int .i64 (s.r 2), .int .i64 (s.r 3), .slice A1 n1 c1, .slice A2 n2 c2, .slice none 0 0]
            have q1 := own_fr o1 x1 (fun k hk e => by subst e; exact own_apart o1 bP (by decide) hk)
            have q2 := own_fr o2 x1 (fun k hk e => by subst e; exact own_apart o2 bP (by decide) hk)
            have fV : Fr No wr _ := fr_row12 G3.out (g := P) (.inr HP9.out) #[.int .i64 0, .int .i64 0, .int .i64 (s.r 0), .int .i64 (s.r 1), .int .i64 (s.r 2), .int .i64 (s.r 3), .slice A1 n1 c1, .slice A2 n2 c2, .slice none 0 0]
            obtain ⟨V, hV⟩ : ∃ V, World.setRow v3 P #[.int .i64 0, .int .i64 0, .int .i64 (s.r 0), .int .i64 (s.r 1), .int .i64 (s.r 2), .int .i64 (s.r 3), .slice A1 n1 c1, .slice A2 n2 c2, .slice none 0 0] = V := ⟨_, rfl⟩
            rw [hV] at st6 bP2 x1 q1 q2 fV
            refine any_store12 (i := 5) (by kernel_rfl) rfl rfl (by rfl) (exec_st rfl rfl st6) (HS0.out _ fV) ?_
            refine wpAnyH_done (by kernel_rfl) ?_ _
            have HbP := Lib.hid bP2
            have HO1 := Lib.hid q1
            have HO2 := Lib.hid q2
            have hgs := Hgs.out
            have hp9 := HP9.out
            have HWt := Lib.hid (fun W (h : Fr (fun k => k = P) V W) => (hre.out.wt.fr fV (fun e => e)).fr h (by omega))
            have HMp := Lib.hid (fun W (h : Fr (fun k => k = P) V W) => (hre.out.mp.fr fV (fun e => e)).fr h (by omega))
            have HbZV := Lib.hid (fun W (h : Fr (fun k => k = P) V W) => (HbZ.out V fV).fr h (by omega))
            have HfV := Lib.hid (Hfw.out.trans' fV (fun _ _ e => e))
            have HPw : Hid (w.heap.size ≤ P) := Lib.hid (by omega)
            have HVw : Hid (w.heap.size ≤ wr.heap.size ∧ w.heap.size ≤ V.heap.size) := Lib.hid ⟨by omega, by have := fV.size; omega⟩
            clear hHeld bP o1 o2 st6 bP2 x1 q1 q2 fV hV hgs hp9 g1 G1 g2 G2 g3 G3 G0 HbP2 Ho1 Ho2 HP9 HP1 HP2 HbZ HS0 hre hfr a0 Hgs Hfw
            as_aux_lemma =>
              go_wp2
              go_loopw [28] (fun kv wq => ∃ (j n : Nat) (A : Option Addr) (c9 : Nat), j ≤ 1000 ∧ n ≤ j ∧ kv = .int .i64 j ∧ Hid (n = (chgsTo s.wt s.m j).length) ∧ Hid (Bk wq P 39 #[.int .i64 0, .int .i64 0, .int .i64 (s.r 0), .int .i64 (s.r 1), .int .i64 (s.r 2), .int .i64 (s.r 3), .slice A1 n1 c1, .slice A2 n2 c2, .slice A n c9]) ∧ Hid (wq.ownsRow V.heap.size 57 3 (.slice A n c9) n ((chgsTo s.wt s.m j).flatMap Chg.cells)) ∧ Hid (Fr (fun k => k = P) V wq)) (fun kv _ => 1000 - (intOf kv).toNat)
              case atStart => exact ⟨0, 0, none, 0, by omega, by omega, rfl, Lib.hid rfl, HbP, Lib.hid (World.ownsRow_nil _ _ _ _), Lib.hid (Fr.refl _ _)⟩
              case round =>
                obtain ⟨j, n, A, c9, hj, hnj, rfl, Hn, hbk, hown, hfP⟩ := hrel
                by_cases hlt : j < 1000
                · have qT1 : (0 : Int) ≤ (j : Int) := by omega
                  have qT2 : (j : Int) < 1000 := by omega
                  have x0 := (HWt.out wr hfP.out).cell j
                  rw [flags_at _ _ _ hlt] at x0
                  have x1 := (HMp.out wr hfP.out).is13 hlt
                  cases hw : s.wt j
                  · rw [hw] at x0
                    have Hs : Hid (chgsTo s.wt s.m (j + 1) = chgsTo s.wt s.m j) := Lib.hid (chgs_stay hw)
                    clear hw x1
                    go_wp2
                    go_roundw
                    case rel => exact ⟨j + 1, n, A, c9, by omega, by omega, by go_num, Lib.hid (by rw [Hs.out]; exact Hn.out), hbk, Lib.hid (by rw [Hs.out]; exact hown.out), hfP⟩
                    case measure => simp [intOf]; omega
                  · rw [hw] at x0
                    have hbl : P < wr.heap.size := hbk.out.lt
                    cases hi9 : isM s.m j
                    · have hvj : valM s.m j = 0 := valM_no hi9
                      rw [hi9] at x1
                      have hcs := chgs_step (m := s.m) hw (b := true) (v := 0) (by rw [hi9]; rfl) hvj
                      have HL9 : Hid (n + 1 = (chgsTo s.wt s.m (j + 1)).length) := Lib.hid (by rw [hcs.2, Hn.out])
                      have HC9 := Lib.hid hcs.1
                      generalize (chgsTo s.wt s.m j).flatMap Chg.cells = xs at *
                      have f0 : Fr (fun k => k = P) V (wr.alloc (.cells #[.int .i64 (j : Int), .bool true, .int .i64 0] 57)) := hfP.out.alloc _
                      have y1 := (HMp.out _ f0).is13 hlt
                      rw [hi9] at y1
                      have b1 := hbk.out.alloc (.cells #[.int .i64 (j : Int), .bool true, .int .i64 0] 57)
                      have o1 := hown.out.alloc (.cells #[.int .i64 (j : Int), .bool true, .int .i64 0] 57)
                      have k8 := b1.cell 8
                      simp only [List.getElem?_toArray, List.getElem?_cons_succ, List.getElem?_cons_zero] at k8
                      have hne9 : (Value.slice A n c9).ownBlock ≠ some P := own_apart o1 b1 (by decide)
                      have hsz9 : V.heap.size ≤ (wr.alloc (.cells #[.int .i64 (j : Int), .bool true, .int .i64 0] 57)).heap.size := by rw [World.size_alloc]; have := hfP.out.size; omega
                      have f1 : Fr (fun k => k = P) V (wr.alloc (.cells #[.int .i64 (j : Int), .bool true, .int .i64 0] 57)) := hfP.out.alloc _
                      have Hb1 := Lib.hid b1
                      have Hlt9 := Lib.hid (fun k e => (o1.lt k e).1)
                      have Hf1 := Lib.hid f1
                      have Hne := Lib.hid hne9
                      clear b1 f0 f1 hne9 hcs hw hi9 hvj hbk hown hfP Hn
                      go_wp2_with (first
                        | (at_builtin
                           refine wpList_append_elem rfl _ _ _ rfl V.heap.size 57 (.agg #[.int .i64 0, .bool false, .int .i64 0]) 3 24 Tryz.underlying37 info_chg rfl (by omega) (.slice A n c9) n xs #[.int .i64 (j : Int), .bool true, .int .i64 0] rfl (by intro u hu; simp at hu; rcases hu with rfl | rfl | rfl <;> rfl) rfl (wr.heap.size + 1) (by simp) rfl o1 (by unfold maxLen; omega) (by omega) hsz9 ?_
                           intro A3 c3 w3 ho3 hf3 hg3
                           obtain ⟨k9, z9, HB4, HO4, HF4⟩ := app_out13 Hb1.out Hne.out Hlt9.out Hf1.out ho3 hf3
                           have hs3 := hf3.size
                           clear ho3 hf3 hg3))
                      go_roundw
                      case rel => exact ⟨j + 1, n + 1, A3, c3, by omega, by omega, by go_num, HL9, HB4, Lib.hid (by rw [HC9.out]; exact HO4.out), HF4⟩
                      case measure => simp [intOf]; omega
                    · have x2 := (HMp.out wr hfP.out).val13 hlt hi9
                      obtain ⟨vj, hvj⟩ : ∃ vj, valM s.m j = vj := ⟨_, rfl⟩
                      rw [hvj] at x2
                      rw [hi9] at x1
                      have hcs := chgs_step (m := s.m) hw (b := false) (v := vj) (by rw [hi9]; rfl) hvj
                      have HL9 : Hid (n + 1 = (chgsTo s.wt s.m (j + 1)).length) := Lib.hid (by rw [hcs.2, Hn.out])
                      have HC9 := Lib.hid hcs.1
                      generalize (chgsTo s.wt s.m j).flatMap Chg.cells = xs at *
                      have f0 : Fr (fun k => k = P) V (wr.alloc (.cells #[.int .i64 (j : Int), .bool false, .int .i64 0] 57)) := hfP.out.alloc _
                      have y1 := (HMp.out _ f0).is13 hlt
                      rw [hi9] at y1
                      have y2 := (HMp.out _ f0).val13 hlt hi9
                      rw [hvj] at y2
                      have b1 := hbk.out.alloc (.cells #[.int .i64 (j : Int), .bool false, .int .i64 vj] 57)
                      have o1 := hown.out.alloc (.cells #[.int .i64 (j : Int), .bool false, .int .i64 vj] 57)
                      have k8 := b1.cell 8
                      simp only [List.getElem?_toArray, List.getElem?_cons_succ, List.getElem?_cons_zero] at k8
                      have hne9 : (Value.slice A n c9).ownBlock ≠ some P := own_apart o1 b1 (by decide)
                      have hsz9 : V.heap.size ≤ (wr.alloc (.cells #[.int .i64 (j : Int), .bool false, .int .i64 vj] 57)).heap.size := by rw [World.size_alloc]; have := hfP.out.size; omega
                      have f1 : Fr (fun k => k = P) V (wr.alloc (.cells #[.int .i64 (j : Int), .bool false, .int .i64 vj] 57)) := hfP.out.alloc _
                      have Hb1 := Lib.hid b1
                      have Hlt9 := Lib.hid (fun k e => (o1.lt k e).1)
                      have Hf1 := Lib.hid f1
                      have Hne := Lib.hid hne9
                      clear b1 f0 f1 hne9 hcs hw hi9 hvj hbk hown hfP Hn
                      go_wp2_with (first
                        | (at_builtin
                           refine wpList_append_elem rfl _ _ _ rfl V.heap.size 57 (.agg #[.int .i64 0, .bool false, .int .i64 0]) 3 24 Tryz.underlying37 info_chg rfl (by omega) (.slice A n c9) n xs #[.int .i64 (j : Int), .bool false, .int .i64 vj] rfl (by intro u hu; simp at hu; rcases hu with rfl | rfl | rfl <;> rfl) rfl (wr.heap.size + 1) (by simp) rfl o1 (by unfold maxLen; omega) (by omega) hsz9 ?_
                           intro A3 c3 w3 ho3 hf3 hg3
                           obtain ⟨k9, z9, HB4, HO4, HF4⟩ := app_out13 Hb1.out Hne.out Hlt9.out Hf1.out ho3 hf3
                           have hs3 := hf3.size
                           clear ho3 hf3 hg3))
                      go_roundw
                      case rel => exact ⟨j + 1, n + 1, A3, c3, by omega, by omega, by go_num, HL9, HB4, Lib.hid (by rw [HC9.out]; exact HO4.out), HF4⟩
                      case measure => simp [intOf]; omega
                · obtain rfl : j = 1000 := by omega
                  have hz0 := (HbZV.out wr hfP.out)
                  have hst := st_out hZ9.out hz0 (c := 0) (a := 0) (r0 := s.r 0) (r1 := s.r 1) (r2 := s.r 2) (r3 := s.r 3) (v1 := .slice A1 n1 c1) (v2 := .slice A2 n2 c2) (v3 := .slice A n c9) rfl rfl rfl
                  have hld := ld_out hbk.out
                  have hbF := bk_row12 hz0 #[.int .i64 0, .int .i64 0, .int .i64 (s.r 0), .int .i64 (s.r 1), .int .i64 (s.r 2), .int .i64 (s.r 3), .slice A1 n1 c1, .slice A2 n2 c2, .slice A n c9]
                  have o1 := own_fr HO1.out hfP.out (fun k hk e => by subst e; exact own_apart HO1.out HbP.out (by decide) hk)
                  have o2 := own_fr HO2.out hfP.out (fun k hk e => by subst e; exact own_apart HO2.out HbP.out (by decide) hk)
                  have fq := fr_row12 (Fr.refl (fun k => k = q + 1 + 1) wr) (g := q + 1 + 1) (.inl rfl) #[.int .i64 0, .int .i64 0, .int .i64 (s.r 0), .int .i64 (s.r 1), .int .i64 (s.r 2), .int .i64 (s.r 3), .slice A1 n1 c1, .slice A2 n2 c2, .slice A n c9]
                  have p1 := own_fr o1 fq (fun k hk e => by subst e; exact own_apart o1 hz0 (by decide) hk)
                  have p2 := own_fr o2 fq (fun k hk e => by subst e; exact own_apart o2 hz0 (by decide) hk)
                  have p3 := own_fr hown.out fq (fun k hk e => by subst e; exact own_apart hown.out hz0 (by decide) hk)
                  have fF := fr_row12 (HfV.out.trans' hfP.out (fun k hk e => by have h1 := HPw.out; have e : k = P := e; omega)) (g := q + 1 + 1) (.inr (by have := Hq.out; omega)) #[.int .i64 0, .int .i64 0, .int .i64 (s.r 0), .int .i64 (s.r 1), .int .i64 (s.r 2), .int .i64 (s.r 3), .slice A1 n1 c1, .slice A2 n2 c2, .slice A n c9]
                  obtain ⟨W3, hW3⟩ : ∃ W3, W3 = World.setRow wr (q + 1 + 1) #[.int .i64 0, .int .i64 0, .int .i64 (s.r 0), .int .i64 (s.r 1), .int .i64 (s.r 2), .int .i64 (s.r 3), .slice A1 n1 c1, .slice A2 n2 c2, .slice A n c9] := ⟨_, rfl⟩
                  rw [← hW3] at hst hbF fF p1 p2 p3
                  have Hst := Lib.hid hst
                  have Hld := Lib.hid hld
                  have Hlf := Lib.hid (ld_out hbF)
                  have Hn3 : Hid ((chgsOf s.wt s.m).length = n) := Lib.hid Hn.out.symm
                  have Hend : Hid (OutC po w (.returned (.agg #[.int .i64 0, .int .i64 0, .int .i64 (s.r 0), .int .i64 (s.r 1), .int .i64 (s.r 2), .int .i64 (s.r 3), .slice A1 n1 c1, .slice A2 n2 c2, .slice A n c9])) W3) := Lib.hid (by
                    rw [Hpo.out]
                    refine ⟨⟨⟨0, 0, s.r, plainOf s.rd, plainOf s.wt, chgsOf s.wt s.m⟩, A1, c1, A2, c2, A, c9⟩, ?_, rfl, ⟨Sl.ofOwn p1, Sl.ofOwn p2, Sl.ofOwn p3⟩, fun ad h => ?_, fF⟩
                    · simp only [Otc.agg, Hn1.out, Hn2.out, Hn3.out]
                    · have h1 := HVw.out
                      rcases h with h | h | h
                      · have h : A1 = some ad := h
                        subst h
                        have h2 := (p1.lt ad.block rfl).1
                        omega
                      · have h : A2 = some ad := h
                        subst h
                        have h2 := (p2.lt ad.block rfl).1
                        omega
                      · have h : A = some ad := h
                        subst h
                        have h2 := (p3.lt ad.block rfl).1
                        omega)
                  clear hst hld hbF o1 o2 fq p1 p2 p3 fF hW3 hz0 hbk hown hfP Hn
                  go_wp2_with (first | ((with_reducible refine wpl_ld ?_ ?_ Hld.out ?_); (· rfl); (· rfl); simp only [Act.put]) | ((with_reducible refine wpl_st ?_ ?_ ?_ Hst.out ?_); (· rfl); (· rfl); (· rfl); simp only [Act.put]))
                  exact bodyPost_ret (cell_result Tryz.results14 Hlf.out rfl) rfl Hend.out
        · obtain ⟨P, hPd⟩ : ∃ P, wr.drew.heap.size = P := ⟨_, rfl⟩
          refine oneH_val 27 rfl (by rfl) (exec_alloc_out _ wr.drew P hPd) ?_
          simp only [Act.put, List.setIfInBounds_toArray, List.set_cons_zero, List.set_cons_succ]
          have g1' : Fr No wr.drew (wr.drew.alloc (.cells #[.int .i64 0, .int .i64 0, .int .i64 0, .int .i64 0, .int .i64 0, .int .i64 0, .slice none 0 0, .slice none 0 0, .slice none 0 0] 39)) := (Fr.refl _ _).alloc _
          have bP0 := Bk.made wr.drew 39 #[.int .i64 0, .int .i64 0, .int .i64 0, .int .i64 0, .int .i64 0, .int .i64 0, .slice none 0 0, .slice none 0 0, .slice none 0 0]
          rw [hPd] at bP0
          generalize wr.drew.alloc (.cells #[.int .i64 0, .int .i64 0, .int .i64 0, .int .i64 0, .int .i64 0, .int .i64 0, .slice none 0 0, .slice none 0 0, .slice none 0 0] 39) = v1 at *
          have hP9 : wr.heap.size ≤ P := by rw [← hPd]; exact G0.out.size
          have HP9 := Lib.hid hP9
          have g1 := Lib.hid g1'
          have HbP1 := Lib.hid bP0
          clear bP0 g1' hPd hP9
          have G1 := Lib.hid (G0.out.trans' g1.out (fun _ _ e => e))
          refine hK.out _ _ (HS0.out _ G1.out) (fun hHeld => ?_)
          clear hK
          refine wpAnyH_ready (rs := [1]) (by kernel_rfl) (by simp) ?_
          refine AllReadyH.cons rfl (fun K' hK => ?_) AllReadyH.nil
          refine oneH_call 234 (f := 37) (args := #[.pointer (some ⟨gd, 0, none⟩)]) rfl (by rfl) (by go_simp) (HP1.out v1 G1.out) ?_
          rintro _ v2 ⟨A1, c1, rfl, ho1, hf1⟩
          simp only [Act.put, List.setIfInBounds_toArray, List.set_cons_zero, List.set_cons_succ]
          have g2 : Hid (Fr No v1 v2) := Lib.hid hf1
          have Ho1 := Lib.hid (own_base ho1 (B' := wr.heap.size) G1.out.size)
          clear ho1 hf1
          have G2 := Lib.hid (G1.out.trans' g2.out (fun _ _ e => e))
          refine hK.out _ _ (HS0.out _ G2.out) (fun hHeld => ?_)
          clear hK
          refine wpAnyH_ready (rs := [2]) (by kernel_rfl) (by simp) ?_
          refine AllReadyH.cons rfl (fun K' hK => ?_) AllReadyH.nil
          refine oneH_call 235 (f := 37) (args := #[.pointer (some ⟨gw, 0, none⟩)]) rfl (by rfl) (by go_simp) (HP2.out v2 G2.out) ?_
          rintro _ v3 ⟨A2, c2, rfl, ho2, hf2⟩
          simp only [Act.put, List.setIfInBounds_toArray, List.set_cons_zero, List.set_cons_succ]
          have g3 : Hid (Fr No v2 v3) := Lib.hid hf2
          have Ho2 := Lib.hid (own_base ho2 (B' := wr.heap.size) G2.out.size)
          clear ho2 hf2
          have G3 := Lib.hid (G2.out.trans' g3.out (fun _ _ e => e))
          refine hK.out _ _ (HS0.out _ G3.out) (fun hHeld => ?_)
          clear hK
          refine any_take 236 (.agg #[.int .i64 0, .int .i64 0, .int .i64 (s.r 0), .int .i64 (s.r 1), .int .i64 (s.r 2), .int .i64 (s.r 3), .slice A1 n1 c1, .slice A2 n2 c2, .slice none 0 0]) (i := 3) rfl rfl (by kernel_rfl) (by kernel_rfl) (by kernel_rfl) (fun _ _ _ h => h) (by rfl) (by intro w hSw; (try dsimp only at hSw); go_simp; try with_reducible rfl) (by assumption) ?_
          simp only [Act.put, List.setIfInBounds_toArray, List.set_cons_zero, List.set_cons_succ]
          have bP := HbP1.out.fr ((g2.out).trans' g3.out (fun _ _ e => e)) (fun e => e)
          have o1 := own_fr Ho1.out (g3.out) (fun _ _ e => e)
          have o2 := own_fr Ho2.out (Fr.refl No _) (fun _ _ e => e)
          have st6 := st_out (c := 0) (a := 0) (r0 := s.r 0) (r1 := s.r 1) (r2 := s.r 2) (r3 := s.r 3) (v1 := .slice A1 n1 c1) (v2 := .slice A2 n2 c2) (v3 := .slice none 0 0) rfl bP rfl rfl rfl
          have bP2 := bk_row12 bP #[.int .i64 0, .int .i64 0, .int .i64 (s.r 0), .int .i64 (s.r 1), .int .i64 (s.r 2), .int .i64 (s.r 3), .slice A1 n1 c1, .slice A2 n2 c2, .slice none 0 0]
          have x1 := fr_row12 (Fr.refl (fun k => k = P) v3) (g := P) (.inl rfl) #[.int .i64 0, .int .i64 0, .int .i64 (s.r 0), .int .i64 (s.r 1), .int .i64 (s.r 2), .int .i64 (s.r 3), .slice A1 n1 c1, .slice A2 n2 c2, .slice none 0 0]
          have q1 := own_fr o1 x1 (fun k hk e => by subst e; exact own_apart o1 bP (by decide) hk)
          have q2 := own_fr o2 x1 (fun k hk e => by subst e; exact own_apart o2 bP (by decide) hk)
          have fV : Fr No wr _ := fr_row12 G3.out (g := P) (.inr HP9.out) #[.int .i64 0, .int .i64 0, .int .i64 (s.r 0), .int .i64 (s.r 1), .int .i64 (s.r 2), .int .i64 (s.r 3), .slice A1 n1 c1, .slice A2 n2 c2, .slice none 0 0]
          obtain ⟨V, hV⟩ : ∃ V, World.setRow v3 P #[.int .i64 0, .int .i64 0, .int .i64 (s.r 0), .int .i64 (s.r 1), .int .i64 (s.r 2), .int .i64 (s.r 3), .slice A1 n1 c1, .slice A2 n2 c2, .slice none 0 0] = V := ⟨_, rfl⟩
          rw [hV] at st6 bP2 x1 q1 q2 fV
          refine any_store12 (i := 5) (by kernel_rfl) rfl rfl (by rfl) (exec_st rfl rfl st6) (HS0.out _ fV) ?_
          refine wpAnyH_done (by kernel_rfl) ?_ _
          have HbP := Lib.hid bP2
          have HO1 := Lib.hid q1
          have HO2 := Lib.hid q2
          have hgs := Hgs.out
          have hp9 := HP9.out
          have HWt := Lib.hid (fun W (h : Fr (fun k => k = P) V W) => (hre.out.wt.fr fV (fun e => e)).fr h (by omega))
          have HMp := Lib.hid (fun W (h : Fr (fun k => k = P) V W) => (hre.out.mp.fr fV (fun e => e)).fr h (by omega))
          have HbZV := Lib.hid (fun W (h : Fr (fun k => k = P) V W) => (HbZ.out V fV).fr h (by omega))
          have HfV := Lib.hid (Hfw.out.trans' fV (fun _ _ e => e))
          have HPw : Hid (w.heap.size ≤ P) := Lib.hid (by omega)
          have HVw : Hid (w.heap.size ≤ wr.heap.size ∧ w.heap.size ≤ V.heap.size) := Lib.hid ⟨by omega, by have := fV.size; omega⟩
          clear hHeld bP o1 o2 st6 bP2 x1 q1 q2 fV hV hgs hp9 g1 G1 g2 G2 g3 G3 G0 HbP1 Ho1 Ho2 HP9 HP1 HP2 HbZ HS0 hre hfr a0 Hgs Hfw
          as_aux_lemma =>
            go_wp2
            go_loopw [28] (fun kv wq => ∃ (j n : Nat) (A : Option Addr) (c9 : Nat), j ≤ 1000 ∧ n ≤ j ∧ kv = .int .i64 j ∧ Hid (n = (chgsTo s.wt s.m j).length) ∧ Hid (Bk wq P 39 #[.int .i64 0, .int .i64 0, .int .i64 (s.r 0), .int .i64 (s.r 1), .int .i64 (s.r 2), .int .i64 (s.r 3), .slice A1 n1 c1, .slice A2 n2 c2, .slice A n c9]) ∧ Hid (wq.ownsRow V.heap.size 57 3 (.slice A n c9) n ((chgsTo s.wt s.m j).flatMap Chg.cells)) ∧ Hid (Fr (fun k => k = P) V wq)) (fun kv _ => 1000 - (intOf kv).toNat)
            case atStart => exact ⟨0, 0, none, 0, by omega, by omega, rfl, Lib.hid rfl, HbP, Lib.hid (World.ownsRow_nil _ _ _ _), Lib.hid (Fr.refl _ _)⟩
            case round =>
              obtain ⟨j, n, A, c9, hj, hnj, rfl, Hn, hbk, hown, hfP⟩ := hrel
              by_cases hlt : j < 1000
              · have qT1 : (0 : Int) ≤ (j : Int) := by omega
                have qT2 : (j : Int) < 1000 := by omega
                have x0 := (HWt.out wr hfP.out).cell j
                rw [flags_at _ _ _ hlt] at x0
                have x1 := (HMp.out wr hfP.out).is13 hlt
                cases hw : s.wt j
                · rw [hw] at x0
                  have Hs : Hid (chgsTo s.wt s.m (j + 1) = chgsTo s.wt s.m j) := Lib.hid (chgs_stay hw)
                  clear hw x1
                  go_wp2
                  go_roundw
                  case rel => exact ⟨j + 1, n, A, c9, by omega, by omega, by go_num, Lib.hid (by rw [Hs.out]; exact Hn.out), hbk, Lib.hid (by rw [Hs.out]; exact hown.out), hfP⟩
                  case measure => simp [intOf]; omega
                · rw [hw] at x0
                  have hbl : P < wr.heap.size := hbk.out.lt
                  cases hi9 : isM s.m j
                  · have hvj : valM s.m j = 0 := valM_no hi9
                    rw [hi9] at x1
                    have hcs := chgs_step (m := s.m) hw (b := true) (v := 0) (by rw [hi9]; rfl) hvj
                    have HL9 : Hid (n + 1 = (chgsTo s.wt s.m (j + 1)).length) := Lib.hid (by rw [hcs.2, Hn.out])
                    have HC9 := Lib.hid hcs.1
                    generalize (chgsTo s.wt s.m j).flatMap Chg.cells = xs at *
                    have f0 : Fr (fun k => k = P) V (wr.alloc (.cells #[.int .i64 (j : Int), .bool true, .int .i64 0] 57)) := hfP.out.alloc _
                    have y1 := (HMp.out _ f0).is13 hlt
                    rw [hi9] at y1
                    have b1 := hbk.out.alloc (.cells #[.int .i64 (j : Int), .bool true, .int .i64 0] 57)
                    have o1 := hown.out.alloc (.cells #[.int .i64 (j : Int), .bool true, .int .i64 0] 57)
                    have k8 := b1.cell 8
                    simp only [List.getElem?_toArray, List.getElem?_cons_succ, List.getElem?_cons_zero] at k8
                    have hne9 : (Value.slice A n c9).ownBlock ≠ some P := own_apart o1 b1 (by decide)
                    have hsz9 : V.heap.size ≤ (wr.alloc (.cells #[.int .i64 (j : Int), .bool true, .int .i64 0] 57)).heap.size := by rw [World.size_alloc]; have := hfP.out.size; omega
                    have f1 : Fr (fun k => k = P) V (wr.alloc (.cells #[.int .i64 (j : Int), .bool true, .int .i64 0] 57)) := hfP.out.alloc _
                    have Hb1 := Lib.hid b1
                    have Hlt9 := Lib.hid (fun k e => (o1.lt k e).1)
                    have Hf1 := Lib.hid f1
                    have Hne := Lib.hid hne9
                    clear b1 f0 f1 hne9 hcs hw hi9 hvj hbk hown hfP Hn
                    go_wp2_with (first
                      | (at_builtin
                         refine wpList_append_elem rfl _ _ _ rfl V.heap.size 57 (.agg #[.int .i64 0, .bool false, .int .i64 0]) 3 24 Tryz.underlying37 info_chg rfl (by omega) (.slice A n c9) n xs #[.int .i64 (j : Int), .bool true, .int .i64 0] rfl (by intro u hu; simp at hu; rcases hu with rfl | rfl | rfl <;> rfl) rfl (wr.heap.size + 1) (by simp) rfl o1 (by unfold maxLen; omega) (by omega) hsz9 ?_
                         intro A3 c3 w3 ho3 hf3 hg3
                         obtain ⟨k9, z9, HB4, HO4, HF4⟩ := app_out13 Hb1.out Hne.out Hlt9.out Hf1.out ho3 hf3
                         have hs3 := hf3.size
                         clear ho3 hf3 hg3))
                    go_roundw
                    case rel => exact ⟨j + 1, n + 1, A3, c3, by omega, by omega, by go_num, HL9, HB4, Lib.hid (by rw [HC9.out]; exact HO4.out), HF4⟩
                    case measure => simp [intOf]; omega
                  · have x2 := (HMp.out wr hfP.out).val13 hlt hi9
                    obtain ⟨vj, hvj⟩ : ∃ vj, valM s.m j = vj := ⟨_, rfl⟩
                    rw [hvj] at x2
                    rw [hi9] at x1
                    have hcs := chgs_step (m := s.m) hw (b := false) (v := vj) (by rw [hi9]; rfl) hvj
                    have HL9 : Hid (n + 1 = (chgsTo s.wt s.m (j + 1)).length) := Lib.hid (by rw [hcs.2, Hn.out])
                    have HC9 := Lib.hid hcs.1
                    generalize (chgsTo s.wt s.m j).flatMap Chg.cells = xs at *
                    have f0 : Fr (fun k => k = P) V (wr.alloc (.cells #[.int .i64 (j : Int), .bool false, .int .i64 0] 57)) := hfP.out.alloc _
                    have y1 := (HMp.out _ f0).is13 hlt
                    rw [hi9] at y1
                    have y2 := (HMp.out _ f0).val13 hlt hi9
                    rw [hvj] at y2
                    have b1 := hbk.out.alloc (.cells #[.int .i64 (j : Int), .bool false, .int .i64 vj] 57)
                    have o1 := hown.out.alloc (.cells #[.int .i64 (j : Int), .bool false, .int .i64 vj] 57)
                    have k8 := b1.cell 8
                    simp only [List.getElem?_toArray, List.getElem?_cons_succ, List.getElem?_cons_zero] at k8
                    have hne9 : (Value.slice A n c9).ownBlock ≠ some P := own_apart o1 b1 (by decide)
                    have hsz9 : V.heap.size ≤ (wr.alloc (.cells #[.int .i64 (j : Int), .bool false, .int .i64 vj] 57)).heap.size := by rw [World.size_alloc]; have := hfP.out.size; omega
                    have f1 : Fr (fun k => k = P) V (wr.alloc (.cells #[.int .i64 (j : Int), .bool false, .int .i64 vj] 57)) := hfP.out.alloc _
                    have Hb1 := Lib.hid b1
                    have Hlt9 := Lib.hid (fun k e => (o1.lt k e).1)
                    have Hf1 := Lib.hid f1
                    have Hne := Lib.hid hne9
                    clear b1 f0 f1 hne9 hcs hw hi9 hvj hbk hown hfP Hn
                    go_wp2_with (first
                      | (at_builtin
                         refine wpList_append_elem rfl _ _ _ rfl V.heap.size 57 (.agg #[.int .i64 0, .bool false, .int .i64 0]) 3 24 Tryz.underlying37 info_chg rfl (by omega) (.slice A n c9) n xs #[.int .i64 (j : Int), .bool false, .int .i64 vj] rfl (by intro u hu; simp at hu; rcases hu with rfl | rfl | rfl <;> rfl) rfl (wr.heap.size + 1) (by simp) rfl o1 (by unfold maxLen; omega) (by omega) hsz9 ?_
                         intro A3 c3 w3 ho3 hf3 hg3
                         obtain ⟨k9, z9, HB4, HO4, HF4⟩ := app_out13 Hb1.out Hne.out Hlt9.out Hf1.out ho3 hf3
                         have hs3 := hf3.size
                         clear ho3 hf3 hg3))
                    go_roundw
                    case rel => exact ⟨j + 1, n + 1, A3, c3, by omega, by omega, by go_num, HL9, HB4, Lib.hid (by rw [HC9.out]; exact HO4.out), HF4⟩
                    case measure => simp [intOf]; omega
              · obtain rfl : j = 1000 := by omega
                have hz0 := (HbZV.out wr hfP.out)
                have hst := st_out hZ9.out hz0 (c := 0) (a := 0) (r0 := s.r 0) (r1 := s.r 1) (r2 := s.r 2) (r3 := s.r 3) (v1 := .slice A1 n1 c1) (v2 := .slice A2 n2 c2) (v3 := .slice A n c9) rfl rfl rfl
                have hld := ld_out hbk.out
                have hbF := bk_row12 hz0 #[.int .i64 0, .int .i64 0, .int .i64 (s.r 0), .int .i64 (s.r 1), .int .i64 (s.r 2), .int .i64 (s.r 3), .slice A1 n1 c1, .slice A2 n2 c2, .slice A n c9]
                have o1 := own_fr HO1.out hfP.out (fun k hk e => by subst e; exact own_apart HO1.out HbP.out (by decide) hk)
                have o2 := own_fr HO2.out hfP.out (fun k hk e => by subst e; exact own_apart HO2.out HbP.out (by decide) hk)
                have fq := fr_row12 (Fr.refl (fun k => k = q + 1 + 1) wr) (g := q + 1 + 1) (.inl rfl) #[.int .i64 0, .int .i64 0, .int .i64 (s.r 0), .int .i64 (s.r 1), .int .i64 (s.r 2), .int .i64 (s.r 3), .slice A1 n1 c1, .slice A2 n2 c2, .slice A n c9]
                have p1 := own_fr o1 fq (fun k hk e => by subst e; exact own_apart o1 hz0 (by decide) hk)
                have p2 := own_fr o2 fq (fun k hk e => by subst e; exact own_apart o2 hz0 (by decide) hk)
                have p3 := own_fr hown.out fq (fun k hk e => by subst e; exact own_apart hown.out hz0 (by decide) hk)
                have fF := fr_row12 (HfV.out.trans' hfP.out (fun k hk e => by have h1 := HPw.out; have e : k = P := e; omega)) (g := q + 1 + 1) (.inr (by have := Hq.out; omega)) #[.int .i64 0, .int .i64 0, .int .i64 (s.r 0), .int .i64 (s.r 1), .int .i64 (s.r 2), .int .i64 (s.r 3), .slice A1 n1 c1, .slice A2 n2 c2, .slice A n c9]
                obtain ⟨W3, hW3⟩ : ∃ W3, W3 = World.setRow wr (q + 1 + 1) #[.int .i64 0, .int .i64 0, .int .i64 (s.r 0), .int .i64 (s.r 1), .int .i64 (s.r 2), .int .i64 (s.r 3), .slice A1 n1 c1, .slice A2 n2 c2, .slice A n c9] := ⟨_, rfl⟩
                rw [← hW3] at hst hbF fF p1 p2 p3
                have Hst := Lib.hid hst
                have Hld := Lib.hid hld
                have Hlf := Lib.hid (ld_out hbF)
                have Hn3 : Hid ((chgsOf s.wt s.m).length = n) := Lib.hid Hn.out.symm
                have Hend : Hid (OutC po w (.returned (.agg #[.int .i64 0, .int .i64 0, .int .i64 (s.r 0), .int .i64 (s.r 1), .int .i64 (s.r 2), .int .i64 (s.r 3), .slice A1 n1 c1, .slice A2 n2 c2, .slice A n c9])) W3) := Lib.hid (by
                  rw [Hpo.out]
                  refine ⟨⟨⟨0, 0, s.r, plainOf s.rd, plainOf s.wt, chgsOf s.wt s.m⟩, A1, c1, A2, c2, A, c9⟩, ?_, rfl, ⟨Sl.ofOwn p1, Sl.ofOwn p2, Sl.ofOwn p3⟩, fun ad h => ?_, fF⟩
                  · simp only [Otc.agg, Hn1.out, Hn2.out, Hn3.out]
                  · have h1 := HVw.out
                    rcases h with h | h | h
                    · have h : A1 = some ad := h
                      subst h
                      have h2 := (p1.lt ad.block rfl).1
                      omega
                    · have h : A2 = some ad := h
                      subst h
                      have h2 := (p2.lt ad.block rfl).1
                      omega
                    · have h : A = some ad := h
                      subst h
                      have h2 := (p3.lt ad.block rfl).1
                      omega)
                clear hst hld hbF o1 o2 fq p1 p2 p3 fF hW3 hz0 hbk hown hfP Hn
                go_wp2_with (first | ((with_reducible refine wpl_ld ?_ ?_ Hld.out ?_); (· rfl); (· rfl); simp only [Act.put]) | ((with_reducible refine wpl_st ?_ ?_ ?_ Hst.out ?_); (· rfl); (· rfl); (· rfl); simp only [Act.put]))
                exact bodyPost_ret (cell_result Tryz.results14 Hlf.out rfl) rfl Hend.out
end Go.Proofs.YthenadijiepmnaaGreat
