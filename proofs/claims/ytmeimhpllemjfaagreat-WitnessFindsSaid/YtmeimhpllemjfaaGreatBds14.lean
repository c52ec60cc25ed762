/- Package units: which classes and steps there are; a unit grows. -/
import Derived.Test.YtmeimhpllemjfaaGreatRfb14
import Derived.Test.YtmeimhpllemjfaaGreatPts12
import Derived.WalkMore
import Derived.Test.YtmeimhpllemjfaaGreatMyp14
import Derived.Test.YtmeimhpllemjfaaGreatMyp12
import Derived.Test.YtmeimhpllemjfaaGreatHand
import Derived.Deep.CutRange
namespace Go.Proofs.YtmeimhpllemjfaaGreat
open Go.RowKit

set_option maxRecDepth 100000 in
set_option maxHeartbeats 1000000 in
theorem hasClass_any (x : Ctl) (c : Int) (w : World) : Calls Tryz.prog 87 #[x.agg, .int .i64 c] w (Has w (x.p.has c)) := by
 rw [has_eq]
 unfold Ctl.agg
 obtain ⟨Z, hZ⟩ : ∃ Z, Z = x.arr := ⟨_, rfl⟩
 rw [← hZ]
 rw [Ctl.arr_eq] at hZ
 obtain ⟨W0, hW0⟩ : ∃ W0, W0 = w.alloc (.cells Z 26) := ⟨_, rfl⟩
 have bZ : Bk W0 w.heap.size 26 Z := by rw [hW0]; exact Bk.made w _ _
 have HF0 : Hid (Fr No w W0) := Lib.hid (by rw [hW0]; exact (Fr.refl _ _).alloc _)
 have HLd : Hid (∀ V, Fr No W0 V → LdO V 26 ⟨w.heap.size, 0, none⟩ (.agg Z) ∧ V.cell? ⟨w.heap.size, 0, none⟩ = some (.slice x.cA x.cls.length x.cc)) := Lib.hid (fun V h => ⟨ld_cat hZ (bZ.fr h (fun e => e)), by rw [(bZ.fr h (fun e => e)).cell, hZ]; rfl⟩)
 have hwe := hW0.symm
 clear hZ hW0 bZ
 have x0 := (HLd.out W0 (Fr.refl _ _)).2
 generalize x.cls.length = n at *
 clear HLd
 by_cases h1 : 0 ≤ c
 ·by_cases h2 : c < (n : Int)
  ·rw [decide_eq_true (And.intro h1 h2)]
   go_enter Tryz.func87, Tryz.ntmps87
   go_wp2
   go_ret
   exact ⟨rfl, HF0.out⟩
  ·have e0 : decide (0 ≤ c ∧ c < (n : Int)) = false := decide_eq_false (by omega)
   rw [e0]
   clear e0
   go_enter Tryz.func87, Tryz.ntmps87
   go_wp2
   go_ret
   exact ⟨rfl, HF0.out⟩
 ·have e0 : decide (0 ≤ c ∧ c < (n : Int)) = false := decide_eq_false (by omega)
  rw [e0]
  clear e0
  go_enter Tryz.func87, Tryz.ntmps87
  go_wp2
  go_ret
  exact ⟨rfl, HF0.out⟩
def PCt.hasS (x : PCt) (c i : Int) : Bool := x.has c && decide (0 ≤ i ∧ i < x.steps c)
set_option maxRecDepth 100000 in
set_option maxHeartbeats 1000000 in
theorem hasStep_any (x : Ctl) (c i : Int) (w : World) (hx : Clss w x.cA x.cls) : Calls Tryz.prog 74 #[x.agg, .int .i64 c, .int .i64 i] w (Has w (x.p.hasS c i)) := by
 have HC := Lib.hid (fun W => hasClass_any x c W)
 have Hsl := Lib.hid (fun (k : Nat) (hk : k < x.cls.length) W (h : Fr No w W) => (hx.since h).sl.cls hk)
 have Hst := Lib.hid (fun (k : Nat) (hk : k < x.cls.length) => steps_eq x hk)
 have He := Lib.hid (has_eq x c)
 unfold PCt.hasS
 unfold Ctl.agg at HC ⊢
 obtain ⟨Z, hZ⟩ : ∃ Z, Z = x.arr := ⟨_, rfl⟩
 rw [← hZ] at HC ⊢
 rw [Ctl.arr_eq] at hZ
 obtain ⟨W0, hW0⟩ : ∃ W0, W0 = w.alloc (.cells Z 26) := ⟨_, rfl⟩
 have bZ : Bk W0 w.heap.size 26 Z := by rw [hW0]; exact Bk.made w _ _
 have HF0 : Hid (Fr No w W0) := Lib.hid (by rw [hW0]; exact (Fr.refl _ _).alloc _)
 have HLd : Hid (∀ V, Fr No W0 V → LdO V 26 ⟨w.heap.size, 0, none⟩ (.agg Z) ∧ V.cell? ⟨w.heap.size, 0, none⟩ = some (.slice x.cA x.cls.length x.cc)) := Lib.hid (fun V h => ⟨ld_cat hZ (bZ.fr h (fun e => e)), by rw [(bZ.fr h (fun e => e)).cell, hZ]; rfl⟩)
 have hwe := hW0.symm
 clear hZ hW0 bZ
 clear hx
 have HL := Lib.hid (HLd.out W0 (Fr.refl _ _)).1
 cases h1 : x.p.has c
 ·rw [h1] at HC
  rw [Bool.false_and]
  clear He Hst Hsl h1
  go_enter Tryz.func74, Tryz.ntmps74
  go_wp2_with (first
   | ((with_reducible refine wpl_ld ?_ ?_ HL.out ?_); (· rfl); (· rfl); simp only [Act.put, szA, szB, szC]))
  refine (HC.out _).mono ?_
  rintro e w1 ⟨rfl, f1⟩
  go_wp2
  go_ret
  exact ⟨rfl, HF0.out.trans' f1 (fun _ _ e => e)⟩
 rw [h1] at HC
 rw [Bool.true_and]
 have h1' := h1
 rw [He.out, decide_eq_true_eq] at h1'
 obtain ⟨k, rfl⟩ := Int.eq_ofNat_of_zero_le h1'.1
 have hk : k < x.cls.length := by omega
 rw [Hst.out k hk]
 have hkn : ((k : Nat) : Int) < (x.cls.length : Int) := by omega
 have hS := Lib.hid (fun W h => Hsl.out k hk W h)
 generalize x.cA = cA at *
 clear He Hst h1 h1' Hsl
 generalize x.cls[k].steps.length = L at *
 generalize x.cls[k].sA = sA at *
 generalize x.cls[k].sc = sc at *
 by_cases h2 : 0 ≤ i
 ·by_cases h3 : i < (L : Int)
  ·rw [decide_eq_true (And.intro h2 h3)]
   go_enter Tryz.func74, Tryz.ntmps74
   go_wp2_with (first
    | ((with_reducible refine wpl_ld ?_ ?_ HL.out ?_); (· rfl); (· rfl); simp only [Act.put, szA, szB, szC]))
   refine (HC.out _).mono ?_
   rintro e w1 ⟨rfl, f1⟩
   have y0 := (HLd.out w1 f1).2
   have HF1 := Lib.hid (HF0.out.trans' f1 (fun _ _ e => e))
   obtain ⟨ad, e1, hab, c0, c1, c2, c3, c4⟩ := hS.out w1 HF1.out
   subst e1
   clear c0 c1 c3 c4 f1 hS HLd HL
   go_wp2
   go_ret
   exact ⟨rfl, HF1.out⟩
  ·have e0 : decide (0 ≤ i ∧ i < (L : Int)) = false := decide_eq_false (by omega)
   have d3 : decide (i < (L : Int)) = false := decide_eq_false h3
   rw [e0]
   clear e0
   go_enter Tryz.func74, Tryz.ntmps74
   go_wp2_with (first
    | ((with_reducible refine wpl_ld ?_ ?_ HL.out ?_); (· rfl); (· rfl); simp only [Act.put, szA, szB, szC]))
   refine (HC.out _).mono ?_
   rintro e w1 ⟨rfl, f1⟩
   have y0 := (HLd.out w1 f1).2
   have HF1 := Lib.hid (HF0.out.trans' f1 (fun _ _ e => e))
   obtain ⟨ad, e1, hab, c0, c1, c2, c3, c4⟩ := hS.out w1 HF1.out
   subst e1
   clear c0 c1 c3 c4 f1 hS HLd HL
   go_wp2
   go_ret
   exact ⟨rfl, HF1.out⟩
 ·have e0 : decide (0 ≤ i ∧ i < (L : Int)) = false := decide_eq_false (by omega)
  rw [e0]
  clear e0
  go_enter Tryz.func74, Tryz.ntmps74
  go_wp2_with (first
   | ((with_reducible refine wpl_ld ?_ ?_ HL.out ?_); (· rfl); (· rfl); simp only [Act.put, szA, szB, szC]))
  refine (HC.out _).mono ?_
  rintro e w1 ⟨rfl, f1⟩
  have y0 := (HLd.out w1 f1).2
  have HF1 := Lib.hid (HF0.out.trans' f1 (fun _ _ e => e))
  obtain ⟨ad, e1, hab, c0, c1, c2, c3, c4⟩ := hS.out w1 HF1.out
  subst e1
  clear c0 c1 c3 c4 f1 hS HLd HL
  go_wp2
  go_ret
  exact ⟨rfl, HF1.out⟩

set_option maxRecDepth 100000 in
set_option maxHeartbeats 4000000 in
theorem grown_any (x : Ctl) (c i : Nat) (d : Int) (w : World) (hx : Clss w x.cA x.cls) (hF : x.Few) (hc : c < x.cls.length) (hi : i < x.cls[c].steps.length) :
  Calls Tryz.prog 89 #[x.agg, .int .i64 (c : Int), .int .i64 d, .int .i64 (i : Int)] w
   fun e w' => e = .returned (.tuple #[.int .i64 ((loP (x.p.bks c d) i : Nat) : Int), .int .i64 ((hiP (x.p.bks c d) x.cls[c].steps.length i : Nat) : Int)]) ∧ Fr No w w' := by
 have hL4 : x.cls[c].steps.length ≤ 4 := hF.st _ (List.getElem_mem hc)
 have hhc : x.p.has (c : Int) = true := by rw [has_eq]; exact decide_eq_true (by omega)
 have hst := steps_eq x hc
 have HSt := Lib.hid (fun (j : Int) (h0 : 0 ≤ j) (h1 : j < x.cls[c].steps.length) W (h : Fr No w W) => show Calls Tryz.prog 74 #[x.agg, .int .i64 (c : Int), .int .i64 j] W (Has W true) by
  have h2 := hasStep_any x c j W (hx.since h)
  have e : x.p.hasS (c : Int) j = true := by unfold PCt.hasS; rw [hhc, hst]; exact decide_eq_true ⟨h0, h1⟩
  rwa [e] at h2)
 have HSf := Lib.hid (fun (j : Int) (h0 : ¬ (0 ≤ j ∧ j < x.cls[c].steps.length)) W (h : Fr No w W) => show Calls Tryz.prog 74 #[x.agg, .int .i64 (c : Int), .int .i64 j] W (Has W false) by
  have h2 := hasStep_any x c j W (hx.since h)
  have e : x.p.hasS (c : Int) j = false := by unfold PCt.hasS; rw [hhc, hst]; exact decide_eq_false h0
  rwa [e] at h2)
 have HB := Lib.hid (fun (k : Nat) W (h : Fr No w W) => show Calls Tryz.prog 110 #[x.agg, .int .i64 (c : Int), .int .i64 d, .int .i64 (k : Int)] W (Has W (x.p.bks c d k)) from break_any x c d k W (hx.since h) hF)
 generalize x.p.bks (c : Int) d = p at *
 unfold Ctl.agg at HSt HSf HB ⊢
 obtain ⟨Z, hZ⟩ : ∃ Z, Z = x.arr := ⟨_, rfl⟩
 rw [← hZ] at HSt HSf HB ⊢
 rw [Ctl.arr_eq] at hZ
 obtain ⟨W0, hW0⟩ : ∃ W0, W0 = w.alloc (.cells Z 26) := ⟨_, rfl⟩
 have bZ : Bk W0 w.heap.size 26 Z := by rw [hW0]; exact Bk.made w _ _
 have HF0 : Hid (Fr No w W0) := Lib.hid (by rw [hW0]; exact (Fr.refl _ _).alloc _)
 have HLd : Hid (∀ V, Fr No W0 V → LdO V 26 ⟨w.heap.size, 0, none⟩ (.agg Z) ∧ V.cell? ⟨w.heap.size, 0, none⟩ = some (.slice x.cA x.cls.length x.cc)) := Lib.hid (fun V h => ⟨ld_cat hZ (bZ.fr h (fun e => e)), by rw [(bZ.fr h (fun e => e)).cell, hZ]; rfl⟩)
 have hwe := hW0.symm
 clear hZ hW0 bZ
 generalize x.cls[c].steps.length = L at *
 clear hx hF hhc hst hc
 go_enter Tryz.func89, Tryz.ntmps89
 go_wp2
 go_step3
 go_wp2
 go_step3
 go_wp2
 go_loopw [8, 9] (fun lov hiv wr => ∃ (lo hi : Nat), lo ≤ i ∧ i ≤ hi ∧ hi < L ∧ lov = .int .i64 (lo : Int) ∧ hiv = .int .i64 (hi : Int) ∧ Hid (∀ k, lo ≤ k → k < hi → p k = false) ∧ Hid (Fr No W0 wr)) (fun lov hiv _ => (intOf lov).toNat + (L - (intOf hiv).toNat))
 case atStart => exact ⟨i, i, by omega, by omega, hi, rfl, rfl, Lib.hid (fun k h1 h2 => by omega), Lib.hid (Fr.refl _ _)⟩
 case round =>
  obtain ⟨lo, hi, hli, hih, hhL, rfl, rfl, hno, hfr⟩ := hrel
  have HL := Lib.hid (HLd.out _ hfr.out).1
  by_cases h0 : lo = 0
  ·subst h0
   have hS1 := Lib.hid (HSf.out (((0 : Nat) : Int) - 1) (by omega) _ (HF0.out.trans' hfr.out (fun _ _ e => e)))
   go_wp2_with (first
    | ((with_reducible refine wpl_ld ?_ ?_ HL.out ?_); (· rfl); (· rfl); simp only [Act.put, szA, szB, szC]))
   refine (hS1.out).mono ?_
   rintro e w1 ⟨rfl, f1⟩
   have F1 := Lib.hid (hfr.out.trans' f1 (fun _ _ e => e))
   clear f1 hS1 HL
   by_cases hhi : hi + 1 < L
   ·have HS2 := Lib.hid (fun (hq : hi + 1 < L) => HSt.out ((hi : Int) + 1) (by omega) (by omega))
    have hS2 := Lib.hid (HS2.out (by omega) _ (HF0.out.trans' F1.out (fun _ _ e => e)))
    have HL2 := Lib.hid (HLd.out _ F1.out).1
    go_wp2_with (first
     | ((with_reducible refine wpl_ld ?_ ?_ HL2.out ?_); (· rfl); (· rfl); simp only [Act.put, szA, szB, szC]))
    refine (hS2.out).mono ?_
    rintro e w7 ⟨rfl, f7⟩
    have F7 := Lib.hid (F1.out.trans' f7 (fun _ _ e => e))
    clear f7 hS2 HL2
    have hB2 := Lib.hid (HB.out hi _ (HF0.out.trans' F7.out (fun _ _ e => e)))
    have HL3 := Lib.hid (HLd.out _ F7.out).1
    cases hph : p hi
    ·rw [hph] at hB2
     go_wp2_with (first
      | ((with_reducible refine wpl_ldg ?_ ?_ HL3.out ?_); (· rfl); (· rfl); simp only [Act.put, szA, szB, szC]))
     refine (hB2.out).mono ?_
     rintro e w8 ⟨rfl, f8⟩
     have F8 := Lib.hid (F7.out.trans' f8 (fun _ _ e => e))
     have HN2 : Hid (∀ k, 0 ≤ k → k < hi + 1 → p k = false) := Lib.hid (fun k h1 h2 => by
      by_cases e : k = hi
      ·rw [e]; exact hph
      ·exact hno.out k h1 (by omega))
     clear f8 hB2 HL3 hno
     go_wp2
     go_roundw
     case rel => exact ⟨0, hi + 1, by omega, by omega, by omega, by first | rfl | go_num, by go_num, HN2, F8⟩
     case measure => simp [intOf]; omega
    ·rw [hph] at hB2
     go_wp2_with (first
      | ((with_reducible refine wpl_ldg ?_ ?_ HL3.out ?_); (· rfl); (· rfl); simp only [Act.put, szA, szB, szC]))
     refine (hB2.out).mono ?_
     rintro e w8 ⟨rfl, f8⟩
     have F8 := Lib.hid (F7.out.trans' f8 (fun _ _ e => e))
     have HE : Hid (loP p i = 0 ∧ hiP p L i = hi) := Lib.hid ⟨lo_is hli (fun k h1 h2 => hno.out k h1 (by omega)) (.inl rfl), hi_is hhL hih (fun k h1 h2 => hno.out k (by omega) h2) (.inr hph)⟩
     clear f8 hB2 HL3 hno
     go_wp2
     try rw [Exit.noGoto_ret]
     refine bodyPost_ret (results_tmp2 rfl _ _ _) rfl ?_
     exact ⟨by rw [HE.out.1, HE.out.2]; rfl, HF0.out.trans' F8.out (fun _ _ e => e)⟩
   ·have HS2 := Lib.hid (fun (hq : ¬ (hi + 1 < L)) => HSf.out ((hi : Int) + 1) (by omega))
    have hS2 := Lib.hid (HS2.out (by omega) _ (HF0.out.trans' F1.out (fun _ _ e => e)))
    have HL2 := Lib.hid (HLd.out _ F1.out).1
    go_wp2_with (first
     | ((with_reducible refine wpl_ld ?_ ?_ HL2.out ?_); (· rfl); (· rfl); simp only [Act.put, szA, szB, szC]))
    refine (hS2.out).mono ?_
    rintro e w7 ⟨rfl, f7⟩
    have F7 := Lib.hid (F1.out.trans' f7 (fun _ _ e => e))
    clear f7 hS2 HL2
    have HE : Hid (loP p i = 0 ∧ hiP p L i = hi) := Lib.hid ⟨lo_is hli (fun k h1 h2 => hno.out k h1 (by omega)) (.inl rfl), hi_is hhL hih (fun k h1 h2 => hno.out k (by omega) h2) (.inl (by omega))⟩
    clear hno
    go_wp2
    try rw [Exit.noGoto_ret]
    refine bodyPost_ret (results_tmp2 rfl _ _ _) rfl ?_
    exact ⟨by rw [HE.out.1, HE.out.2]; rfl, HF0.out.trans' F7.out (fun _ _ e => e)⟩
  ·have hS1 := Lib.hid (HSt.out ((lo : Int) - 1) (by omega) (by omega) _ (HF0.out.trans' hfr.out (fun _ _ e => e)))
   go_wp2_with (first
    | ((with_reducible refine wpl_ld ?_ ?_ HL.out ?_); (· rfl); (· rfl); simp only [Act.put, szA, szB, szC]))
   refine (hS1.out).mono ?_
   rintro e w1 ⟨rfl, f1⟩
   have F1 := Lib.hid (hfr.out.trans' f1 (fun _ _ e => e))
   have HL1 := Lib.hid (HLd.out _ F1.out).1
   have hB1 := Lib.hid (HB.out (lo - 1) _ (HF0.out.trans' F1.out (fun _ _ e => e)))
   rw [show ((lo - 1 : Nat) : Int) = (lo : Int) - 1 by omega] at hB1
   clear f1 hS1 HL
   cases hpl : p (lo - 1)
   ·rw [hpl] at hB1
    go_wp2_with (first
     | ((with_reducible refine wpl_ldg ?_ ?_ HL1.out ?_); (· rfl); (· rfl); simp only [Act.put, szA, szB, szC]))
    refine (hB1.out).mono ?_
    rintro e w2 ⟨rfl, f2⟩
    have F2 := Lib.hid (F1.out.trans' f2 (fun _ _ e => e))
    have HN2 : Hid (∀ k, lo - 1 ≤ k → k < hi → p k = false) := Lib.hid (fun k h1 h2 => by
     by_cases e : k = lo - 1
     ·rw [e]; exact hpl
     ·exact hno.out k (by omega) h2)
    clear f2 hB1 HL1 hno
    go_wp2
    go_roundw
    case rel => exact ⟨lo - 1, hi, by omega, by omega, by omega, by go_num, rfl, HN2, F2⟩
    case measure => simp [intOf]; omega
   ·rw [hpl] at hB1
    have hlo0 : Hid (lo = 0 ∨ p (lo - 1) = true) := Lib.hid (.inr hpl)
    go_wp2_with (first
     | ((with_reducible refine wpl_ldg ?_ ?_ HL1.out ?_); (· rfl); (· rfl); simp only [Act.put, szA, szB, szC]))
    refine (hB1.out).mono ?_
    rintro e w2 ⟨rfl, f2⟩
    have F2 := Lib.hid (F1.out.trans' f2 (fun _ _ e => e))
    clear f2 hB1 HL1
    by_cases hhi : hi + 1 < L
    ·have HS2 := Lib.hid (fun (hq : hi + 1 < L) => HSt.out ((hi : Int) + 1) (by omega) (by omega))
     have hS2 := Lib.hid (HS2.out (by omega) _ (HF0.out.trans' F2.out (fun _ _ e => e)))
     have HL2 := Lib.hid (HLd.out _ F2.out).1
     go_wp2_with (first
      | ((with_reducible refine wpl_ld ?_ ?_ HL2.out ?_); (· rfl); (· rfl); simp only [Act.put, szA, szB, szC]))
     refine (hS2.out).mono ?_
     rintro e w7 ⟨rfl, f7⟩
     have F7 := Lib.hid (F2.out.trans' f7 (fun _ _ e => e))
     clear f7 hS2 HL2
     have hB2 := Lib.hid (HB.out hi _ (HF0.out.trans' F7.out (fun _ _ e => e)))
     have HL3 := Lib.hid (HLd.out _ F7.out).1
     cases hph : p hi
     ·rw [hph] at hB2
      go_wp2_with (first
       | ((with_reducible refine wpl_ldg ?_ ?_ HL3.out ?_); (· rfl); (· rfl); simp only [Act.put, szA, szB, szC]))
      refine (hB2.out).mono ?_
      rintro e w8 ⟨rfl, f8⟩
      have F8 := Lib.hid (F7.out.trans' f8 (fun _ _ e => e))
      have HN2 : Hid (∀ k, lo ≤ k → k < hi + 1 → p k = false) := Lib.hid (fun k h1 h2 => by
       by_cases e : k = hi
       ·rw [e]; exact hph
       ·exact hno.out k h1 (by omega))
      clear f8 hB2 HL3 hno
      go_wp2
      go_roundw
      case rel => exact ⟨lo, hi + 1, by omega, by omega, by omega, by first | rfl | go_num, by go_num, HN2, F8⟩
      case measure => simp [intOf]; omega
     ·rw [hph] at hB2
      go_wp2_with (first
       | ((with_reducible refine wpl_ldg ?_ ?_ HL3.out ?_); (· rfl); (· rfl); simp only [Act.put, szA, szB, szC]))
      refine (hB2.out).mono ?_
      rintro e w8 ⟨rfl, f8⟩
      have F8 := Lib.hid (F7.out.trans' f8 (fun _ _ e => e))
      have HE : Hid (loP p i = lo ∧ hiP p L i = hi) := Lib.hid ⟨lo_is hli (fun k h1 h2 => hno.out k h1 (by omega)) hlo0.out, hi_is hhL hih (fun k h1 h2 => hno.out k (by omega) h2) (.inr hph)⟩
      clear f8 hB2 HL3 hno
      go_wp2
      try rw [Exit.noGoto_ret]
      refine bodyPost_ret (results_tmp2 rfl _ _ _) rfl ?_
      exact ⟨by rw [HE.out.1, HE.out.2]; rfl, HF0.out.trans' F8.out (fun _ _ e => e)⟩
    ·have HS2 := Lib.hid (fun (hq : ¬ (hi + 1 < L)) => HSf.out ((hi : Int) + 1) (by omega))
     have hS2 := Lib.hid (HS2.out (by omega) _ (HF0.out.trans' F2.out (fun _ _ e => e)))
     have HL2 := Lib.hid (HLd.out _ F2.out).1
     go_wp2_with (first
      | ((with_reducible refine wpl_ld ?_ ?_ HL2.out ?_); (· rfl); (· rfl); simp only [Act.put, szA, szB, szC]))
     refine (hS2.out).mono ?_
     rintro e w7 ⟨rfl, f7⟩
     have F7 := Lib.hid (F2.out.trans' f7 (fun _ _ e => e))
     clear f7 hS2 HL2
     have HE : Hid (loP p i = lo ∧ hiP p L i = hi) := Lib.hid ⟨lo_is hli (fun k h1 h2 => hno.out k h1 (by omega)) hlo0.out, hi_is hhL hih (fun k h1 h2 => hno.out k (by omega) h2) (.inl (by omega))⟩
     clear hno
     go_wp2
     try rw [Exit.noGoto_ret]
     refine bodyPost_ret (results_tmp2 rfl _ _ _) rfl ?_
     exact ⟨by rw [HE.out.1, HE.out.2]; rfl, HF0.out.trans' F7.out (fun _ _ e => e)⟩
end Go.Proofs.YtmeimhpllemjfaaGreat
/- Package units: the bounds of a unit; is one open? -/
namespace Go.Proofs.YtmeimhpllemjfaaGreat
open Go.RowKit

theorem grownI_any (x : Ctl) (c d i : Int) (w : World) (hx : Clss w x.cA x.cls) (hF : x.Few) (h : x.p.isU c d i = true) :
  Calls Tryz.prog 89 #[x.agg, .int .i64 c, .int .i64 d, .int .i64 i] w fun e w' => e = .returned (.tuple #[.int .i64 (x.p.uLo c d i), .int .i64 (x.p.uHi c d i)]) ∧ Fr No w w' := by
 have e1 : x.p.uLo c d i = (loP (x.p.bks c d) i.toNat : Nat) := by unfold PCt.uLo; rw [if_pos h]
 have e2 : x.p.uHi c d i = (hiP (x.p.bks c d) (x.p.steps c) i.toNat : Nat) := by unfold PCt.uHi; rw [if_pos h]
 rw [e1, e2]
 obtain ⟨hc, -, hi0, hi1⟩ := isU_parts h
 rw [has_eq, decide_eq_true_eq] at hc
 obtain ⟨c, rfl⟩ := Int.eq_ofNat_of_zero_le hc.1
 obtain ⟨i, rfl⟩ := Int.eq_ofNat_of_zero_le hi0
 have hc' : c < x.cls.length := by omega
 rw [steps_eq x hc'] at hi1 ⊢
 rw [Int.toNat_natCast]
 exact grown_any x c i d w hx hF hc' (by omega)
end Go.Proofs.YtmeimhpllemjfaaGreat
