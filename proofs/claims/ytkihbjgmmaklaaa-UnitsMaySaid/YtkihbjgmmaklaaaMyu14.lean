/- Package units: may a node be? May a history? -/
import Derived.Test.YtkihbjgmmaklaaaFlw14
import Derived.Test.YtkihbjgmmaklaaaMyp14
namespace Go.Proofs.Ytkihbjgmmaklaaa
open Go.RowKit

theorem selfOk_eq (x : PCt) (n : Nd) : selfOk x n = (decide (0 ≤ n.saga) && (x.hasS n.cls n.step && (spsOk n.rd && spsOk n.wt))) := by
  unfold selfOk PCt.hasS
  cases decide (0 ≤ n.saga) <;> cases x.has n.cls <;> cases spsOk n.rd <;> cases spsOk n.wt <;> simp
set_option maxRecDepth 100000 in
set_option maxHeartbeats 4000000 in
theorem mayBe_any (x : Ctl) (a : Ndl) (w : World) (hx : Clss w x.cA x.cls) (ha : a.Ok w) (h1 : a.n.rd.length ≤ 1099511627776) (h2 : a.n.wt.length ≤ 1099511627776) : Calls Try.prog 35 #[x.agg, a.agg] w (Has w (selfOk x.p a.n)) := by
  rw [selfOk_eq]
  have HS := Lib.hid (fun W (h : Fr No w W) => hasStep_any x a.n.cls a.n.step W (hx.since h))
  have HR := Lib.hid (fun W (h : Fr No w W) => maySpans_any a.n.rd a.rA a.n.rd.length a.rc W ((ha.since h).rd) rfl h1)
  have HW := Lib.hid (fun W (h : Fr No w W) => maySpans_any a.n.wt a.wA a.n.wt.length a.wc W ((ha.since h).wt) rfl h2)
  generalize x.p.hasS a.n.cls a.n.step = b1 at *
  generalize spsOk a.n.rd = b2 at *
  generalize spsOk a.n.wt = b3 at *
  unfold Ctl.agg at HS ⊢
  obtain ⟨Z, hZ⟩ : ∃ Z, Z = x.arr := ⟨_, rfl⟩
  rw [← hZ] at HS ⊢
  rw [Ctl.arr_eq] at hZ
  obtain ⟨W0, hW0⟩ : ∃ W0, W0 = w.alloc (.cells Z 26) := ⟨_, rfl⟩
  have bZ : Bk W0 w.heap.size 26 Z := by rw [hW0]; exact Bk.made w _ _
  have HF0 : Hid (Fr No w W0) := Lib.hid (by rw [hW0]; exact (Fr.refl _ _).alloc _)
  have HLd : Hid (∀ V, Fr No W0 V → LdO V 26 ⟨w.heap.size, 0, none⟩ (.agg Z) ∧ V.cell? ⟨w.heap.size, 0, none⟩ = some (.slice x.cA x.cls.length x.cc)) := Lib.hid (fun V h => ⟨ld_cat hZ (bZ.fr h (fun e => e)), by rw [(bZ.fr h (fun e => e)).cell, hZ]; rfl⟩)
  have hwe := hW0.symm
  clear hZ hW0 bZ
  unfold Ndl.agg Ndl.arr
  obtain ⟨W1, hW1⟩ : ∃ W1, W1 = W0.alloc (.cells #[.int .i64 a.n.saga, .int .i64 a.n.cls, .int .i64 a.n.step, .bool a.n.back, .slice a.rA a.n.rd.length a.rc, .slice a.wA a.n.wt.length a.wc] 44) := ⟨_, rfl⟩
  have bA : Bk W1 W0.heap.size 44 #[.int .i64 a.n.saga, .int .i64 a.n.cls, .int .i64 a.n.step, .bool a.n.back, .slice a.rA a.n.rd.length a.rc, .slice a.wA a.n.wt.length a.wc] := by rw [hW1]; exact Bk.made _ _ _
  have f01 : Fr No W0 W1 := by rw [hW1]; exact (Fr.refl _ _).alloc _
  have HF1 := Lib.hid (HF0.out.trans' f01 (fun _ _ e => e))
  have HbA := Lib.hid (fun V (h : Fr No W1 V) => bA.fr h (fun e => e))
  have HL := Lib.hid (fun V (h : Fr No W1 V) => (HLd.out V (f01.trans' h (fun _ _ e => e))).1)
  have hwe2 := hW1.symm
  clear hx ha h1 h2 HLd f01 bA hW1
  generalize a.n.saga = sa at *
  generalize a.n.cls = ca at *
  generalize a.n.step = ta at *
  generalize a.n.back = ka at *
  generalize a.n.rd.length = na at *
  generalize a.n.wt.length = ma at *
  generalize a.rA = Ra at *
  generalize a.rc = rca at *
  generalize a.wA = Va at *
  generalize a.wc = wca at *
  have bx0 := HbA.out _ (Fr.refl _ _)
  have q00 := bx0.cell 0
  have q10 := bx0.cell 1
  have q20 := bx0.cell 2
  have q30 := bx0.cell 3
  have q40 := bx0.cell 4
  have q50 := bx0.cell 5
  simp only [List.getElem?_toArray, List.getElem?_cons_zero, List.getElem?_cons_succ] at q00 q10 q20 q30 q40 q50
  have HL0 := Lib.hid (HL.out _ (Fr.refl _ _))
  clear bx0
  by_cases h0 : 0 ≤ sa
  · have d0 : decide (0 ≤ sa) = true := decide_eq_true h0
    have d0' : ¬ (sa < 0) := by omega
    rw [d0, Bool.true_and]
    have HS1 := Lib.hid (HS.out _ HF1.out)
    clear HS
    go_enter Try.func35, Try.ntmps35
    go_wp2_with (first
      | ((with_reducible refine wpl_ldg ?_ ?_ HL0.out ?_); (· rfl); (· rfl); simp only [Act.put, List.setIfInBounds_toArray, List.set_cons_zero, List.set_cons_succ]))
    refine (HS1.out).mono ?_
    rintro e w1 ⟨rfl, f1⟩
    have F1 := Lib.hid f1
    have HR1 := Lib.hid (HR.out _ (HF1.out.trans' f1 (fun _ _ e => e)))
    have bx1 := HbA.out _ f1
    have q01 := bx1.cell 0
    have q11 := bx1.cell 1
    have q21 := bx1.cell 2
    have q31 := bx1.cell 3
    have q41 := bx1.cell 4
    have q51 := bx1.cell 5
    simp only [List.getElem?_toArray, List.getElem?_cons_zero, List.getElem?_cons_succ] at q01 q11 q21 q31 q41 q51
    clear f1 HS1 bx1 q00 q10 q20 q30 q40 q50
    cases b1
    · go_wp2
      go_ret
      exact ⟨rfl, HF1.out.trans' F1.out (fun _ _ e => e)⟩
    go_wp2_with fail
    refine (HR1.out).mono ?_
    rintro e w2 ⟨rfl, f2⟩
    have F2 := Lib.hid (F1.out.trans' f2 (fun _ _ e => e))
    have HW2 := Lib.hid (HW.out _ (HF1.out.trans' F2.out (fun _ _ e => e)))
    have bx2 := HbA.out _ F2.out
    have q02 := bx2.cell 0
    have q12 := bx2.cell 1
    have q22 := bx2.cell 2
    have q32 := bx2.cell 3
    have q42 := bx2.cell 4
    have q52 := bx2.cell 5
    simp only [List.getElem?_toArray, List.getElem?_cons_zero, List.getElem?_cons_succ] at q02 q12 q22 q32 q42 q52
    clear f2 HR1 bx2 q01 q11 q21 q31 q41 q51
    cases b2
    · go_wp2
      go_ret
      exact ⟨rfl, HF1.out.trans' F2.out (fun _ _ e => e)⟩
    go_wp2_with fail
    refine (HW2.out).mono ?_
    rintro e w3 ⟨rfl, f3⟩
    go_wp2
    go_ret
    exact ⟨rfl, HF1.out.trans' (F2.out.trans' f3 (fun _ _ e => e)) (fun _ _ e => e)⟩
  · have d0 : decide (0 ≤ sa) = false := decide_eq_false h0
    rw [d0, Bool.false_and]
    clear HS HR HW
    go_enter Try.func35, Try.ntmps35
    go_wp2
    go_ret
    exact ⟨rfl, HF1.out⟩
theorem ndAt_take (h : List Nd) {j k : Nat} (hj : j < k) : ndAt (h.take k) j = ndAt h j := by
  unfold ndAt
  rw [List.getD_eq_getElem?_getD, List.getD_eq_getElem?_getD, List.getElem?_take, if_pos hj]
theorem lastN_take (h : List Nd) (s : Int) (k : Nat) : ∀ i, i ≤ k → lastN (h.take k) s i = lastN h s i
  | 0, _ => rfl
  | i + 1, hi => by
    have e : ndAt (h.take k) i = ndAt h i := ndAt_take h (by omega)
    unfold lastN
    rw [e, lastN_take h s k i (by omega)]
theorem ndOk_eq (x : PCt) (h : List Nd) {k : Nat} (hk : k < h.length) : ndOk x h k = (selfOk x (ndAt h k) && folB (h.take k) (ndAt h k)) := by
  unfold ndOk folB
  have hl : (h.take k).length = k := by rw [List.length_take]; omega
  rw [hl, lastN_take h _ k k (Nat.le_refl _)]
  congr 1
  by_cases h0 : lastN h (ndAt h k).saga k = 0
  · rw [if_pos h0, if_pos h0]
  · rw [if_neg h0, if_neg h0]
    have hle := lastN_le h (ndAt h k).saga k
    rw [ndAt_take h (show lastN h (ndAt h k).saga k - 1 < k by omega)]
theorem ndsOf_take (h : List Ndl) (k : Nat) : ndsOf (h.take k) = (ndsOf h).take k := by simp [ndsOf, List.map_take]
theorem flat_take (h : List Ndl) {k : Nat} (hk : k ≤ h.length) : (h.take k).flatMap Ndl.cells = (h.flatMap Ndl.cells).take (k * 6) := by
  induction h generalizing k with
  | nil => simp
  | cons a r ih =>
    cases k with
    | zero => simp
    | succ k =>
      have e : a.cells.length = 6 := rfl
      rw [List.take_succ_cons, List.flatMap_cons, ih (by simpa using hk), List.flatMap_cons, show (k + 1) * 6 = a.cells.length + k * 6 by rw [e]; omega, List.take_length_add_append]
/-- A step of a node that may be is small. -/
theorem step_small {x : PCt} (hok : x.ok = true) {n : Nd} (h : selfOk x n = true) : -1000 ≤ n.step ∧ n.step ≤ 1000 := by
  obtain ⟨-, h2, -, -, h5, h6⟩ := selfOk_parts h
  unfold PCt.has at h2
  rw [decide_eq_true_eq] at h2
  have := (pct_len4 hok (c := n.cls.toNat) (by omega)).2
  unfold PCt.steps at h6
  omega
/-- A history whose nodes have few spans. -/
structure Nds.Few (h : List Ndl) : Prop where
  all : ∀ x ∈ h, x.n.rd.length ≤ 1048576 ∧ x.n.wt.length ≤ 1048576
theorem mayH_bad {x : PCt} {h : List Nd} {k : Nat} (hk : k < h.length) (hb : ndOk x h k = false) : mayH x h = false := by
  unfold mayH
  rw [range_all_not _ hk hb, Bool.and_false, Bool.and_false]
theorem mayH_all {x : PCt} {h : List Nd} (hok : x.ok = true) (h1 : h.length ≤ 100) (ha : (List.range h.length).all (ndOk x h) = true) : mayH x h = true := by
  unfold mayH
  rw [hok, decide_eq_true h1, ha]
  rfl
set_option maxRecDepth 100000 in
set_option maxHeartbeats 8000000 in
theorem mayU_any (x : Ctl) (h : List Ndl) (A : Option Addr) (N c : Nat) (w : World) (hx : Clss w x.cA x.cls) (hB : x.Big) (hh : Nds w A h) (hN : h.length = N) (hNm : N ≤ 1048576) (hNc : N ≤ c) (hf : Nds.Few h) :
    Calls Try.prog 16 #[x.agg, .slice A N c] w (Has w (mayH x.p (ndsOf h))) := by
  have HM := Lib.hid (fun W (hW : Fr No w W) => may14_any x W (hx.since hW) hB)
  have hlen : (ndsOf h).length = N := by simp [ndsOf, hN]
  have HMB := Lib.hid (fun (k : Nat) (hk : k < h.length) W (hW : Fr No w W) => mayBe_any x h[k] W (hx.since hW) ((hh.since hW).all _ (List.getElem_mem hk)) (by have := (hf.all _ (List.getElem_mem hk)).1; omega) (by have := (hf.all _ (List.getElem_mem hk)).2; omega))
  have HFo := Lib.hid (fun (k : Nat) (hk : k < h.length) (hs : ∀ j (hj : j < h.length), j < k → -1000 ≤ h[j].n.step ∧ h[j].n.step ≤ 1000) W (hW : Fr No w W) (cc : Nat) => follows_any (h.take k) A k cc h[k] W (by rw [flat_take h (by omega)]; exact ((hh.since hW).sl).take _) (by rw [List.length_take]; omega) (by omega) (fun y hy => by
    obtain ⟨j, hj, rfl⟩ := List.getElem_of_mem hy
    rw [List.length_take] at hj
    rw [List.getElem_take]
    exact hs j (by omega) (by omega)))
  have HOk := Lib.hid (fun (k : Nat) (hk : k < h.length) => show ndOk x.p (ndsOf h) k = (selfOk x.p h[k].n && folB (ndsOf (h.take k)) h[k].n) by
    rw [ndOk_eq x.p (ndsOf h) (by omega), ndsOf_at hk, ndsOf_take])
  have HSm := Lib.hid (fun (hok : x.p.ok = true) (k : Nat) (hk : k < h.length) (hs : ndOk x.p (ndsOf h) k = true) => show -1000 ≤ h[k].n.step ∧ h[k].n.step ≤ 1000 by
    have := step_small hok (ndOk_self hs)
    rwa [ndsOf_at hk] at this)
  have Hbad := Lib.hid (fun (k : Nat) (hk : k < h.length) (hb : ndOk x.p (ndsOf h) k = false) => mayH_bad (by omega) hb)
  have Hall := Lib.hid (fun (hok : x.p.ok = true) (h1 : N ≤ 100) (ha : (List.range N).all (ndOk x.p (ndsOf h)) = true) => show mayH x.p (ndsOf h) = true from mayH_all hok (by rw [hlen]; exact h1) (by rw [hlen]; exact ha))
  have Hnc : Hid (mayH x.p (ndsOf h) = true → x.p.ok = true ∧ N ≤ 100) := Lib.hid (fun e => ⟨mayH_cat e, by have := mayH_len e; omega⟩)
  have Hnd := Lib.hid (fun (k : Nat) (hk : k < h.length) W (hW : Fr No w W) => (hh.since hW).sl.nd hk)
  generalize mayH x.p (ndsOf h) = r at *
  generalize ndOk x.p (ndsOf h) = ck at *
  unfold Ctl.agg at HM HMB ⊢
  obtain ⟨Z, hZ⟩ : ∃ Z, Z = x.arr := ⟨_, rfl⟩
  rw [← hZ] at HM HMB ⊢
  rw [Ctl.arr_eq] at hZ
  obtain ⟨W0, hW0⟩ : ∃ W0, W0 = w.alloc (.cells Z 26) := ⟨_, rfl⟩
  have bZ : Bk W0 w.heap.size 26 Z := by rw [hW0]; exact Bk.made w _ _
  have HF0 : Hid (Fr No w W0) := Lib.hid (by rw [hW0]; exact (Fr.refl _ _).alloc _)
  have HLd : Hid (∀ V, Fr No W0 V → LdO V 26 ⟨w.heap.size, 0, none⟩ (.agg Z) ∧ V.cell? ⟨w.heap.size, 0, none⟩ = some (.slice x.cA x.cls.length x.cc)) := Lib.hid (fun V h => ⟨ld_cat hZ (bZ.fr h (fun e => e)), by rw [(bZ.fr h (fun e => e)).cell, hZ]; rfl⟩)
  have hwe := hW0.symm
  clear hZ hW0 bZ
  have HL := Lib.hid (fun V (hV : Fr No W0 V) => (HLd.out V hV).1)
  have HN := Lib.hid hN
  clear hx hB hh hf hN hlen HLd
  by_cases h100 : 100 < N
  · have d0 : decide (100 < (N : Int)) = true := decide_eq_true (by omega)
    have HT : Hid (r = false) := Lib.hid (by
      cases r
      · rfl
      · have := (Hnc.out rfl).2
        omega)
    clear HM HMB HFo HOk HSm Hbad Hall Hnd HL
    go_enter Try.func16, Try.ntmps16
    go_wp2
    go_ret
    exact ⟨by rw [HT.out]; rfl, HF0.out⟩
  have d0 : decide (100 < (N : Int)) = false := decide_eq_false (by omega)
  have HL0 := Lib.hid (HL.out _ (Fr.refl _ _))
  have HM0 := Lib.hid (HM.out _ HF0.out)
  obtain ⟨ok, hok⟩ : ∃ b, x.p.ok = b := ⟨_, rfl⟩
  rw [hok] at HM0
  clear HM
  cases ok
  · have HT : Hid (r = false) := Lib.hid (by
      cases r
      · rfl
      · have := (Hnc.out rfl).1
        rw [hok] at this
        cases this)
    clear HMB HFo HOk HSm Hbad Hall Hnd hok
    go_enter Try.func16, Try.ntmps16
    go_wp2_with (first
      | ((with_reducible refine wpl_ldg ?_ ?_ HL0.out ?_); (· rfl); (· rfl); simp only [Act.put, List.setIfInBounds_toArray, List.set_cons_zero, List.set_cons_succ]))
    refine (HM0.out).mono ?_
    rintro e w1 ⟨rfl, f1⟩
    go_wp2
    go_ret
    exact ⟨by rw [HT.out]; rfl, HF0.out.trans' f1 (fun _ _ e => e)⟩
  have HSm2 := Lib.hid (HSm.out hok)
  have Hall2 := Lib.hid (Hall.out hok (by omega))
  clear HSm Hall hok Hnc
  go_enter Try.func16, Try.ntmps16
  go_wp2_with (first
    | ((with_reducible refine wpl_ldg ?_ ?_ HL0.out ?_); (· rfl); (· rfl); simp only [Act.put, List.setIfInBounds_toArray, List.set_cons_zero, List.set_cons_succ]))
  refine (HM0.out).mono ?_
  rintro e w1 ⟨rfl, f1⟩
  have F1 := Lib.hid f1
  clear f1 HM0 HL0 hwe
  go_wp2
  go_loopw [17] (fun iv wr => ∃ k : Nat, k ≤ N ∧ iv = .int .i64 (k : Int) ∧ Hid ((List.range k).all ck = true) ∧ Hid (Fr No W0 wr)) (fun iv _ => N - (intOf iv).toNat)
  case atStart => exact ⟨0, Nat.zero_le _, rfl, Lib.hid rfl, F1⟩
  case round =>
    obtain ⟨k, hk, rfl, hpre, hfr⟩ := hrel
    by_cases hlt : k < N
    · have hkl : k < h.length := by rw [HN.out]; exact hlt
      have hkN : ((k : Nat) : Int) < (N : Int) := by omega
      obtain ⟨ad, rfl, hab, a0, a1, a2, a3, a4, a5⟩ := Hnd.out k hkl wr (HF0.out.trans' hfr.out (fun _ _ e => e))
      have hC1 := Lib.hid (fun W hW => HMB.out k hkl W hW)
      have hs : ∀ j (hj : j < h.length), j < k → -1000 ≤ h[j].n.step ∧ h[j].n.step ≤ 1000 := fun j hj hjk => HSm2.out j hj (range_all_at hpre.out hjk)
      have hC2 := Lib.hid (fun W hW cc => HFo.out k hkl hs W hW cc)
      have Hck := Lib.hid (HOk.out k hkl)
      have Hst : Hid (ck k = true → (List.range (k + 1)).all ck = true) := Lib.hid (fun e => by rw [range_all_snoc, hpre.out, e]; rfl)
      have Hb := Lib.hid (Hbad.out k hkl)
      generalize selfOk x.p h[k].n = b1 at *
      generalize folB (ndsOf (h.take k)) h[k].n = b2 at *
      unfold Ndl.agg Ndl.arr at hC1 hC2
      generalize h[k] = a at *
      clear hpre hs HMB HFo HOk Hbad Hnd HSm2
      generalize a.n.saga = sa at *
      generalize a.n.cls = ca at *
      generalize a.n.step = ta at *
      generalize a.n.back = ka at *
      generalize a.n.rd.length = na at *
      generalize a.n.wt.length = ma at *
      generalize a.rA = Ra at *
      generalize a.rc = rca at *
      generalize a.wA = Va at *
      generalize a.wc = wca at *
      obtain ⟨V1, hV1⟩ : ∃ V1, V1 = wr.alloc (.cells #[.int .i64 sa, .int .i64 ca, .int .i64 ta, .bool ka, .slice Ra na rca, .slice Va ma wca] 44) := ⟨_, rfl⟩
      have bA : Bk V1 wr.heap.size 44 #[.int .i64 sa, .int .i64 ca, .int .i64 ta, .bool ka, .slice Ra na rca, .slice Va ma wca] := by rw [hV1]; exact Bk.made _ _ _
      have FV1 : Hid (Fr No W0 V1) := Lib.hid (by rw [hV1]; exact hfr.out.alloc _)
      have HbA := Lib.hid (fun V (hV : Fr No V1 V) => bA.fr hV (fun e => e))
      go_wp2_with fail
      rw [← hV1]
      generalize wr.heap.size = P at *
      clear hV1 bA a0 a1 a2 a3 a4 a5
      have HSS : Hid (∀ V, Fr No V1 V → LdO V 26 ⟨w.heap.size, 0, none⟩ (.agg Z) ∧ V.cell? ⟨P, 0, none⟩ = some (.int .i64 sa) ∧ V.cell? ⟨P, 1, none⟩ = some (.int .i64 ca) ∧ V.cell? ⟨P, 2, none⟩ = some (.int .i64 ta) ∧ V.cell? ⟨P, 3, none⟩ = some (.bool ka) ∧ V.cell? ⟨P, 4, none⟩ = some (.slice Ra na rca) ∧ V.cell? ⟨P, 5, none⟩ = some (.slice Va ma wca)) := Lib.hid (fun V hV => ⟨HL.out _ (FV1.out.trans' hV (fun _ _ e => e)), (HbA.out V hV).cell 0, (HbA.out V hV).cell 1, (HbA.out V hV).cell 2, (HbA.out V hV).cell 3, (HbA.out V hV).cell 4, (HbA.out V hV).cell 5⟩)
      have D0 : Hid (Fr No V1 V1.drew) := Lib.hid ((Fr.refl No V1).drew)
      go_cut [33] from 22 to 33 (fun s wx => s = .bool (!(b1 && b2)) ∧ Hid (Fr No V1 wx))
      case first =>
        cases b1
        · refine wp_region_held_drew (S := fun V => LdO V 26 ⟨w.heap.size, 0, none⟩ (.agg Z) ∧ V.cell? ⟨P, 0, none⟩ = some (.int .i64 sa) ∧ V.cell? ⟨P, 1, none⟩ = some (.int .i64 ca) ∧ V.cell? ⟨P, 2, none⟩ = some (.int .i64 ta) ∧ V.cell? ⟨P, 3, none⟩ = some (.bool ka) ∧ V.cell? ⟨P, 4, none⟩ = some (.slice Ra na rca) ∧ V.cell? ⟨P, 5, none⟩ = some (.slice Va ma wca)) (by kernel_rfl) (HSS.out _ D0.out) (fun hHeld => ?_)
          refine any_take 22 (.agg Z) (i := 0) rfl rfl (by kernel_rfl) (by kernel_rfl) (by kernel_rfl) (fun _ _ _ h => h) (by rfl) (by intro w hSw; exact exec_ld rfl hSw.1) (by assumption) ?_
          simp only [Act.put, List.setIfInBounds_toArray, List.set_cons_zero, List.set_cons_succ]
          refine any_take 23 (.agg #[.int .i64 sa, .int .i64 ca, .int .i64 ta, .bool ka, .slice Ra na rca, .slice Va ma wca]) (i := 1) rfl rfl (by kernel_rfl) (by kernel_rfl) (by kernel_rfl) (fun _ _ _ h => h) (by rfl) (by intro w hSw; (try dsimp only at hSw); go_simp; try with_reducible rfl) (by assumption) ?_
          simp only [Act.put, List.setIfInBounds_toArray, List.set_cons_zero, List.set_cons_succ]
          refine wpAnyH_ready (rs := [2]) (by kernel_rfl) (by simp) ?_
          refine AllReadyH.cons rfl (fun K' hK => ?_) AllReadyH.nil
          go_simp
          go_at_call 35
          refine (hC1.out _ (HF0.out.trans' (FV1.out.trans' D0.out (fun _ _ e => e)) (fun _ _ e => e))).mono ?_
          rintro e' w2 ⟨rfl, f2⟩
          have D2 := Lib.hid (D0.out.trans' f2 (fun _ _ e => e))
          clear f2
          dsimp only
          refine hK.out _ _ (HSS.out _ D2.out) (fun hHeld => ?_)
          clear hK
          try simp only [Act.put, List.setIfInBounds_toArray, List.set_cons_zero, List.set_cons_succ]
          refine any_take 25 (.bool true) (i := 3) rfl rfl (by kernel_rfl) (by kernel_rfl) (by kernel_rfl) (fun _ _ _ h => h) (by rfl) (by intro w hSw; (try dsimp only at hSw); go_simp; try with_reducible rfl) (by assumption) ?_
          simp only [Act.put, List.setIfInBounds_toArray, List.set_cons_zero, List.set_cons_succ]
          refine any_take 26 (.bool true) (i := 4) rfl rfl (by kernel_rfl) (by kernel_rfl) (by kernel_rfl) (fun _ _ _ h => h) (by rfl) (by intro w hSw; (try dsimp only at hSw); go_simp; try with_reducible rfl) (by assumption) ?_
          simp only [Act.put, List.setIfInBounds_toArray, List.set_cons_zero, List.set_cons_succ]
          refine any_skip 27 (i := 5) rfl rfl (by kernel_rfl) (by kernel_rfl) (by kernel_rfl) (fun _ _ _ h => h) (by rfl) (by assumption) ?_
          simp only [Act.put, List.setIfInBounds_toArray, List.set_cons_zero, List.set_cons_succ]
          refine any_skip 28 (i := 6) rfl rfl (by kernel_rfl) (by kernel_rfl) (by kernel_rfl) (fun _ _ _ h => h) (by rfl) (by assumption) ?_
          simp only [Act.put, List.setIfInBounds_toArray, List.set_cons_zero, List.set_cons_succ]
          refine any_skip 29 (i := 7) rfl rfl (by kernel_rfl) (by kernel_rfl) (by kernel_rfl) (fun _ _ _ h => h) (by rfl) (by assumption) ?_
          simp only [Act.put, List.setIfInBounds_toArray, List.set_cons_zero, List.set_cons_succ]
          refine any_skip 30 (i := 8) rfl rfl (by kernel_rfl) (by kernel_rfl) (by kernel_rfl) (fun _ _ _ h => h) (by rfl) (by assumption) ?_
          simp only [Act.put, List.setIfInBounds_toArray, List.set_cons_zero, List.set_cons_succ]
          refine any_skip 31 (i := 9) rfl rfl (by kernel_rfl) (by kernel_rfl) (by kernel_rfl) (fun _ _ _ h => h) (by rfl) (by assumption) ?_
          simp only [Act.put, List.setIfInBounds_toArray, List.set_cons_zero, List.set_cons_succ]
          refine any_skip 32 (i := 10) rfl rfl (by kernel_rfl) (by kernel_rfl) (by kernel_rfl) (fun _ _ _ h => h) (by rfl) (by assumption) ?_
          simp only [Act.put, List.setIfInBounds_toArray, List.set_cons_zero, List.set_cons_succ]
          refine any_take 33 (.bool true) (i := 11) rfl rfl (by kernel_rfl) (by kernel_rfl) (by kernel_rfl) (fun _ _ _ h => h) (by rfl) (by intro w hSw; (try dsimp only at hSw); go_simp; try with_reducible rfl) (by assumption) ?_
          simp only [Act.put, List.setIfInBounds_toArray, List.set_cons_zero, List.set_cons_succ]
          refine wpAnyH_done (by kernel_rfl) ?_ _
          clear hHeld
          go_wp2
          go_meet
          exact ⟨rfl, D2⟩
        · refine wp_region_held_drew (S := fun V => LdO V 26 ⟨w.heap.size, 0, none⟩ (.agg Z) ∧ V.cell? ⟨P, 0, none⟩ = some (.int .i64 sa) ∧ V.cell? ⟨P, 1, none⟩ = some (.int .i64 ca) ∧ V.cell? ⟨P, 2, none⟩ = some (.int .i64 ta) ∧ V.cell? ⟨P, 3, none⟩ = some (.bool ka) ∧ V.cell? ⟨P, 4, none⟩ = some (.slice Ra na rca) ∧ V.cell? ⟨P, 5, none⟩ = some (.slice Va ma wca)) (by kernel_rfl) (HSS.out _ D0.out) (fun hHeld => ?_)
          refine any_take 22 (.agg Z) (i := 0) rfl rfl (by kernel_rfl) (by kernel_rfl) (by kernel_rfl) (fun _ _ _ h => h) (by rfl) (by intro w hSw; exact exec_ld rfl hSw.1) (by assumption) ?_
          simp only [Act.put, List.setIfInBounds_toArray, List.set_cons_zero, List.set_cons_succ]
          refine any_take 23 (.agg #[.int .i64 sa, .int .i64 ca, .int .i64 ta, .bool ka, .slice Ra na rca, .slice Va ma wca]) (i := 1) rfl rfl (by kernel_rfl) (by kernel_rfl) (by kernel_rfl) (fun _ _ _ h => h) (by rfl) (by intro w hSw; (try dsimp only at hSw); go_simp; try with_reducible rfl) (by assumption) ?_
          simp only [Act.put, List.setIfInBounds_toArray, List.set_cons_zero, List.set_cons_succ]
          refine wpAnyH_ready (rs := [2]) (by kernel_rfl) (by simp) ?_
          refine AllReadyH.cons rfl (fun K' hK => ?_) AllReadyH.nil
          go_simp
          go_at_call 35
          refine (hC1.out _ (HF0.out.trans' (FV1.out.trans' D0.out (fun _ _ e => e)) (fun _ _ e => e))).mono ?_
          rintro e' w2 ⟨rfl, f2⟩
          have D2 := Lib.hid (D0.out.trans' f2 (fun _ _ e => e))
          clear f2
          dsimp only
          refine hK.out _ _ (HSS.out _ D2.out) (fun hHeld => ?_)
          clear hK
          try simp only [Act.put, List.setIfInBounds_toArray, List.set_cons_zero, List.set_cons_succ]
          refine any_take 25 (.bool false) (i := 3) rfl rfl (by kernel_rfl) (by kernel_rfl) (by kernel_rfl) (fun _ _ _ h => h) (by rfl) (by intro w hSw; (try dsimp only at hSw); go_simp; try with_reducible rfl) (by assumption) ?_
          simp only [Act.put, List.setIfInBounds_toArray, List.set_cons_zero, List.set_cons_succ]
          refine any_take 26 (.bool false) (i := 4) rfl rfl (by kernel_rfl) (by kernel_rfl) (by kernel_rfl) (fun _ _ _ h => h) (by rfl) (by intro w hSw; (try dsimp only at hSw); go_simp; try with_reducible rfl) (by assumption) ?_
          simp only [Act.put, List.setIfInBounds_toArray, List.set_cons_zero, List.set_cons_succ]
          refine any_take 27 (.slice (some ad) N c) (i := 5) rfl rfl (by kernel_rfl) (by kernel_rfl) (by kernel_rfl) (fun _ _ _ h => h) (by rfl) (by intro w hSw; (try dsimp only at hSw); go_simp; try with_reducible rfl) (by assumption) ?_
          simp only [Act.put, List.setIfInBounds_toArray, List.set_cons_zero, List.set_cons_succ]
          refine any_take 28 (.int .i64 (k : Int)) (i := 6) rfl rfl (by kernel_rfl) (by kernel_rfl) (by kernel_rfl) (fun _ _ _ h => h) (by rfl) (by intro w hSw; (try dsimp only at hSw); go_simp; try with_reducible rfl) (by assumption) ?_
          simp only [Act.put, List.setIfInBounds_toArray, List.set_cons_zero, List.set_cons_succ]
          refine any_take 29 (.slice (some ad) k c) (i := 7) rfl rfl (by kernel_rfl) (by kernel_rfl) (by kernel_rfl) (fun _ _ _ h => h) (by rfl) (by intro w hSw; (try dsimp only at hSw); go_simp; first | with_reducible rfl | (intro hck; exfalso; omega)) (by assumption) ?_
          simp only [Act.put, List.setIfInBounds_toArray, List.set_cons_zero, List.set_cons_succ]
          refine any_take 30 (.agg #[.int .i64 sa, .int .i64 ca, .int .i64 ta, .bool ka, .slice Ra na rca, .slice Va ma wca]) (i := 8) rfl rfl (by kernel_rfl) (by kernel_rfl) (by kernel_rfl) (fun _ _ _ h => h) (by rfl) (by intro w hSw; (try dsimp only at hSw); go_simp; try with_reducible rfl) (by assumption) ?_
          simp only [Act.put, List.setIfInBounds_toArray, List.set_cons_zero, List.set_cons_succ]
          refine wpAnyH_ready (rs := [9]) (by kernel_rfl) (by simp) ?_
          refine AllReadyH.cons rfl (fun K' hK => ?_) AllReadyH.nil
          go_simp
          go_at_call 36
          refine (hC2.out _ (HF0.out.trans' (FV1.out.trans' D2.out (fun _ _ e => e)) (fun _ _ e => e)) c).mono ?_
          rintro e' w3 ⟨rfl, f3⟩
          have D3 := Lib.hid (D2.out.trans' f3 (fun _ _ e => e))
          clear f3
          dsimp only
          refine hK.out _ _ (HSS.out _ D3.out) (fun hHeld => ?_)
          clear hK
          try simp only [Act.put, List.setIfInBounds_toArray, List.set_cons_zero, List.set_cons_succ]
          refine any_take 32 (.bool (!b2)) (i := 10) rfl rfl (by kernel_rfl) (by kernel_rfl) (by kernel_rfl) (fun _ _ _ h => h) (by rfl) (by intro w hSw; (try dsimp only at hSw); go_simp; try with_reducible rfl) (by assumption) ?_
          simp only [Act.put, List.setIfInBounds_toArray, List.set_cons_zero, List.set_cons_succ]
          refine any_take 33 (.bool (!b2)) (i := 11) rfl rfl (by kernel_rfl) (by kernel_rfl) (by kernel_rfl) (fun _ _ _ h => h) (by rfl) (by intro w hSw; (try dsimp only at hSw); go_simp; try with_reducible rfl) (by assumption) ?_
          simp only [Act.put, List.setIfInBounds_toArray, List.set_cons_zero, List.set_cons_succ]
          refine wpAnyH_done (by kernel_rfl) ?_ _
          clear hHeld
          go_wp2
          go_meet
          exact ⟨by first | rfl | simp, D3⟩
      case rest =>
        obtain ⟨rfl, D3⟩ := hcut
        have FF := Lib.hid (FV1.out.trans' D3.out (fun _ _ e => e))
        clear HSS D0 hC1 hC2 HbA
        cases hb : (b1 && b2)
        · have HT : Hid (r = false) := Lib.hid (Hb.out (by rw [Hck.out, hb]))
          clear Hst Hb Hck hb
          go_wp2
          go_ret
          exact ⟨by rw [HT.out]; rfl, HF0.out.trans' FF.out (fun _ _ e => e)⟩
        · have HS2 := Lib.hid (Hst.out (by rw [Hck.out, hb]))
          clear Hst Hb Hck hb
          go_wp2
          go_roundw
          case rel => exact ⟨k + 1, by omega, by go_num, HS2, FF⟩
          case measure => simp [intOf]; omega
    · obtain rfl : k = N := by omega
      have HT := Lib.hid (Hall2.out hpre.out)
      clear hpre HMB HFo HOk Hbad Hnd HSm2 Hall2
      go_wp2
      go_ret
      exact ⟨by rw [HT.out]; rfl, HF0.out.trans' hfr.out (fun _ _ e => e)⟩
end Go.Proofs.Ytkihbjgmmaklaaa
