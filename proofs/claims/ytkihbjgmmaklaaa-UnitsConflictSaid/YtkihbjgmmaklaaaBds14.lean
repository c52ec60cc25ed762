/- Package units: which classes and steps there are; a unit grows. -/
import Derived.Test.YtkihbjgmmaklaaaRfb14
import Derived.Test.YtkihbjgmmaklaaaBrp12
import Derived.WalkMore
import Derived.Test.YtkihbjgmmaklaaaMyp14
import Derived.Test.YtkihbjgmmaklaaaAlv12
import Derived.Test.YtkihbjgmmaklaaaHand
import Derived.Deep.CutRange
namespace Go.Proofs.Ytkihbjgmmaklaaa
open Go.RowKit

set_option maxRecDepth 100000 in
set_option maxHeartbeats 1000000 in
theorem hasClass_any (x : Ctl) (c : Int) (w : World) : Calls Try.prog 27 #[x.agg, .int .i64 c] w (Has w (x.p.has c)) := by
  rw [has_eq]
  unfold Ctl.agg
  obtain ⟨Z, hZ⟩ : ∃ Z, Z = x.arr := ⟨_, rfl⟩
  rw [← hZ]
  rw [Ctl.arr_eq] at hZ
  obtain ⟨W0, hW0⟩ : ∃ W0, W0 = w.alloc (.cells Z 26) := ⟨_, rfl⟩
  have bZ : Bk W0 w.heap.size 26 Z := by rw [hW0]; exact Bk.made w _ _
  have HF0 : Hid (Fr No w W0) := Lib.hid (by rw [hW0]; exact (Fr.refl _ _).alloc _)
  have HLd : Hid (∀ V, Fr No W0 V → LdO V 26 ⟨w.heap.size, 0, none⟩ (.agg Z) ∧ V.cell? ⟨w.heap.size, 0, none⟩ = some (.slice x.cA x.cls.length x.cc)) := Lib.hid (fun V h => ⟨ld_cat hZ (bZ.fr h (fun e => e)), by rw [(bZ.fr h (fun e => e)).cell, hZ]; rfl⟩)
  have hwe := hW0.symm
  clear hZ hW0 bZ
  have x0 := (HLd.out W0 (Fr.refl _ _)).2
  generalize x.cls.length = n at *
  clear HLd
  by_cases h1 : 0 ≤ c
  · by_cases h2 : c < (n : Int)
    · rw [decide_eq_true (And.intro h1 h2)]
      go_enter Try.func27, Try.ntmps27
      go_wp2
      go_ret
      exact ⟨rfl, HF0.out⟩
    · have e0 : decide (0 ≤ c ∧ c < (n : Int)) = false := decide_eq_false (by omega)
      rw [e0]
      clear e0
      go_enter Try.func27, Try.ntmps27
      go_wp2
      go_ret
      exact ⟨rfl, HF0.out⟩
  · have e0 : decide (0 ≤ c ∧ c < (n : Int)) = false := decide_eq_false (by omega)
    rw [e0]
    clear e0
    go_enter Try.func27, Try.ntmps27
    go_wp2
    go_ret
    exact ⟨rfl, HF0.out⟩
/-- Has a class a step? -/
def PCt.hasS (x : PCt) (c i : Int) : Bool := x.has c && decide (0 ≤ i ∧ i < x.steps c)
theorem PCt.isU_eq (x : PCt) (c d i : Int) : x.isU c d i = (x.hasS c i && x.has d) := by
  unfold PCt.isU PCt.hasS
  cases x.has c <;> cases x.has d <;> simp
set_option maxRecDepth 100000 in
set_option maxHeartbeats 1000000 in
theorem hasStep_any (x : Ctl) (c i : Int) (w : World) (hx : Clss w x.cA x.cls) : Calls Try.prog 26 #[x.agg, .int .i64 c, .int .i64 i] w (Has w (x.p.hasS c i)) := by
  have HC := Lib.hid (fun W => hasClass_any x c W)
  have Hsl := Lib.hid (fun (k : Nat) (hk : k < x.cls.length) W (h : Fr No w W) => (hx.since h).sl.cls hk)
  have Hst := Lib.hid (fun (k : Nat) (hk : k < x.cls.length) => steps_eq x hk)
  have He := Lib.hid (has_eq x c)
  unfold PCt.hasS
  unfold Ctl.agg at HC ⊢
  obtain ⟨Z, hZ⟩ : ∃ Z, Z = x.arr := ⟨_, rfl⟩
  rw [← hZ] at HC ⊢
  rw [Ctl.arr_eq] at hZ
  obtain ⟨W0, hW0⟩ : ∃ W0, W0 = w.alloc (.cells Z 26) := ⟨_, rfl⟩
  have bZ : Bk W0 w.heap.size 26 Z := by rw [hW0]; exact Bk.made w _ _
  have HF0 : Hid (Fr No w W0) := Lib.hid (by rw [hW0]; exact (Fr.refl _ _).alloc _)
  have HLd : Hid (∀ V, Fr No W0 V → LdO V 26 ⟨w.heap.size, 0, none⟩ (.agg Z) ∧ V.cell? ⟨w.heap.size, 0, none⟩ = some (.slice x.cA x.cls.length x.cc)) := Lib.hid (fun V h => ⟨ld_cat hZ (bZ.fr h (fun e => e)), by rw [(bZ.fr h (fun e => e)).cell, hZ]; rfl⟩)
  have hwe := hW0.symm
  clear hZ hW0 bZ
  clear hx
  have HL := Lib.hid (HLd.out W0 (Fr.refl _ _)).1
  cases h1 : x.p.has c
  · rw [h1] at HC
    rw [Bool.false_and]
    clear He Hst Hsl h1
    go_enter Try.func26, Try.ntmps26
    go_wp2_with (first
      | ((with_reducible refine wpl_ld ?_ ?_ HL.out ?_); (· rfl); (· rfl); simp only [Act.put, List.setIfInBounds_toArray, List.set_cons_zero, List.set_cons_succ]))
    refine (HC.out _).mono ?_
    rintro e w1 ⟨rfl, f1⟩
    go_wp2
    go_ret
    exact ⟨rfl, HF0.out.trans' f1 (fun _ _ e => e)⟩
  rw [h1] at HC
  rw [Bool.true_and]
  have h1' := h1
  rw [He.out, decide_eq_true_eq] at h1'
  obtain ⟨k, rfl⟩ := Int.eq_ofNat_of_zero_le h1'.1
  have hk : k < x.cls.length := by omega
  rw [Hst.out k hk]
  have hkn : ((k : Nat) : Int) < (x.cls.length : Int) := by omega
  have hS := Lib.hid (fun W h => Hsl.out k hk W h)
  generalize x.cA = cA at *
  clear He Hst h1 h1' Hsl
  generalize x.cls[k].steps.length = L at *
  generalize x.cls[k].sA = sA at *
  generalize x.cls[k].sc = sc at *
  by_cases h2 : 0 ≤ i
  · by_cases h3 : i < (L : Int)
    · rw [decide_eq_true (And.intro h2 h3)]
      go_enter Try.func26, Try.ntmps26
      go_wp2_with (first
        | ((with_reducible refine wpl_ld ?_ ?_ HL.out ?_); (· rfl); (· rfl); simp only [Act.put, List.setIfInBounds_toArray, List.set_cons_zero, List.set_cons_succ]))
      refine (HC.out _).mono ?_
      rintro e w1 ⟨rfl, f1⟩
      have y0 := (HLd.out w1 f1).2
      have HF1 := Lib.hid (HF0.out.trans' f1 (fun _ _ e => e))
      obtain ⟨ad, e1, hab, c0, c1, c2, c3, c4⟩ := hS.out w1 HF1.out
      subst e1
      clear c0 c1 c3 c4 f1 hS HLd HL
      go_wp2
      go_ret
      exact ⟨rfl, HF1.out⟩
    · have e0 : decide (0 ≤ i ∧ i < (L : Int)) = false := decide_eq_false (by omega)
      have d3 : decide (i < (L : Int)) = false := decide_eq_false h3
      rw [e0]
      clear e0
      go_enter Try.func26, Try.ntmps26
      go_wp2_with (first
        | ((with_reducible refine wpl_ld ?_ ?_ HL.out ?_); (· rfl); (· rfl); simp only [Act.put, List.setIfInBounds_toArray, List.set_cons_zero, List.set_cons_succ]))
      refine (HC.out _).mono ?_
      rintro e w1 ⟨rfl, f1⟩
      have y0 := (HLd.out w1 f1).2
      have HF1 := Lib.hid (HF0.out.trans' f1 (fun _ _ e => e))
      obtain ⟨ad, e1, hab, c0, c1, c2, c3, c4⟩ := hS.out w1 HF1.out
      subst e1
      clear c0 c1 c3 c4 f1 hS HLd HL
      go_wp2
      go_ret
      exact ⟨rfl, HF1.out⟩
  · have e0 : decide (0 ≤ i ∧ i < (L : Int)) = false := decide_eq_false (by omega)
    rw [e0]
    clear e0
    go_enter Try.func26, Try.ntmps26
    go_wp2_with (first
      | ((with_reducible refine wpl_ld ?_ ?_ HL.out ?_); (· rfl); (· rfl); simp only [Act.put, List.setIfInBounds_toArray, List.set_cons_zero, List.set_cons_succ]))
    refine (HC.out _).mono ?_
    rintro e w1 ⟨rfl, f1⟩
    have y0 := (HLd.out w1 f1).2
    have HF1 := Lib.hid (HF0.out.trans' f1 (fun _ _ e => e))
    obtain ⟨ad, e1, hab, c0, c1, c2, c3, c4⟩ := hS.out w1 HF1.out
    subst e1
    clear c0 c1 c3 c4 f1 hS HLd HL
    go_wp2
    go_ret
    exact ⟨rfl, HF1.out⟩

set_option maxRecDepth 100000 in
set_option maxHeartbeats 4000000 in
theorem grown_any (x : Ctl) (c i : Nat) (d : Int) (w : World) (hx : Clss w x.cA x.cls) (hF : x.Few) (hc : c < x.cls.length) (hi : i < x.cls[c].steps.length) :
    Calls Try.prog 28 #[x.agg, .int .i64 (c : Int), .int .i64 d, .int .i64 (i : Int)] w
      fun e w' => e = .returned (.tuple #[.int .i64 ((loP (x.p.bks c d) i : Nat) : Int), .int .i64 ((hiP (x.p.bks c d) x.cls[c].steps.length i : Nat) : Int)]) ∧ Fr No w w' := by
  have hL4 : x.cls[c].steps.length ≤ 4 := hF.st _ (List.getElem_mem hc)
  have hhc : x.p.has (c : Int) = true := by rw [has_eq]; exact decide_eq_true (by omega)
  have hst := steps_eq x hc
  have HSt := Lib.hid (fun (j : Int) (h0 : 0 ≤ j) (h1 : j < x.cls[c].steps.length) W (h : Fr No w W) => show Calls Try.prog 26 #[x.agg, .int .i64 (c : Int), .int .i64 j] W (Has W true) by
    have h2 := hasStep_any x c j W (hx.since h)
    have e : x.p.hasS (c : Int) j = true := by unfold PCt.hasS; rw [hhc, hst]; exact decide_eq_true ⟨h0, h1⟩
    rwa [e] at h2)
  have HSf := Lib.hid (fun (j : Int) (h0 : ¬ (0 ≤ j ∧ j < x.cls[c].steps.length)) W (h : Fr No w W) => show Calls Try.prog 26 #[x.agg, .int .i64 (c : Int), .int .i64 j] W (Has W false) by
    have h2 := hasStep_any x c j W (hx.since h)
    have e : x.p.hasS (c : Int) j = false := by unfold PCt.hasS; rw [hhc, hst]; exact decide_eq_false h0
    rwa [e] at h2)
  have HB := Lib.hid (fun (k : Nat) W (h : Fr No w W) => show Calls Try.prog 50 #[x.agg, .int .i64 (c : Int), .int .i64 d, .int .i64 (k : Int)] W (Has W (x.p.bks c d k)) from break_any x c d k W (hx.since h) hF)
  generalize x.p.bks (c : Int) d = p at *
  unfold Ctl.agg at HSt HSf HB ⊢
  obtain ⟨Z, hZ⟩ : ∃ Z, Z = x.arr := ⟨_, rfl⟩
  rw [← hZ] at HSt HSf HB ⊢
  rw [Ctl.arr_eq] at hZ
  obtain ⟨W0, hW0⟩ : ∃ W0, W0 = w.alloc (.cells Z 26) := ⟨_, rfl⟩
  have bZ : Bk W0 w.heap.size 26 Z := by rw [hW0]; exact Bk.made w _ _
  have HF0 : Hid (Fr No w W0) := Lib.hid (by rw [hW0]; exact (Fr.refl _ _).alloc _)
  have HLd : Hid (∀ V, Fr No W0 V → LdO V 26 ⟨w.heap.size, 0, none⟩ (.agg Z) ∧ V.cell? ⟨w.heap.size, 0, none⟩ = some (.slice x.cA x.cls.length x.cc)) := Lib.hid (fun V h => ⟨ld_cat hZ (bZ.fr h (fun e => e)), by rw [(bZ.fr h (fun e => e)).cell, hZ]; rfl⟩)
  have hwe := hW0.symm
  clear hZ hW0 bZ
  generalize x.cls[c].steps.length = L at *
  clear hx hF hhc hst hc
  go_enter Try.func28, Try.ntmps28
  go_wp2
  go_step3
  go_wp2
  go_step3
  go_wp2
  go_loopw [8, 9] (fun lov hiv wr => ∃ (lo hi : Nat), lo ≤ i ∧ i ≤ hi ∧ hi < L ∧ lov = .int .i64 (lo : Int) ∧ hiv = .int .i64 (hi : Int) ∧ Hid (∀ k, lo ≤ k → k < hi → p k = false) ∧ Hid (Fr No W0 wr)) (fun lov hiv _ => (intOf lov).toNat + (L - (intOf hiv).toNat))
  case atStart => exact ⟨i, i, by omega, by omega, hi, rfl, rfl, Lib.hid (fun k h1 h2 => by omega), Lib.hid (Fr.refl _ _)⟩
  case round =>
    obtain ⟨lo, hi, hli, hih, hhL, rfl, rfl, hno, hfr⟩ := hrel
    have HL := Lib.hid (HLd.out _ hfr.out).1
    by_cases h0 : lo = 0
    · subst h0
      have hS1 := Lib.hid (HSf.out (((0 : Nat) : Int) - 1) (by omega) _ (HF0.out.trans' hfr.out (fun _ _ e => e)))
      go_wp2_with (first
        | ((with_reducible refine wpl_ld ?_ ?_ HL.out ?_); (· rfl); (· rfl); simp only [Act.put, List.setIfInBounds_toArray, List.set_cons_zero, List.set_cons_succ]))
      refine (hS1.out).mono ?_
      rintro e w1 ⟨rfl, f1⟩
      have F1 := Lib.hid (hfr.out.trans' f1 (fun _ _ e => e))
      clear f1 hS1 HL
      by_cases hhi : hi + 1 < L
      · have HS2 := Lib.hid (fun (hq : hi + 1 < L) => HSt.out ((hi : Int) + 1) (by omega) (by omega))
        have hS2 := Lib.hid (HS2.out (by omega) _ (HF0.out.trans' F1.out (fun _ _ e => e)))
        have HL2 := Lib.hid (HLd.out _ F1.out).1
        go_wp2_with (first
          | ((with_reducible refine wpl_ld ?_ ?_ HL2.out ?_); (· rfl); (· rfl); simp only [Act.put, List.setIfInBounds_toArray, List.set_cons_zero, List.set_cons_succ]))
        refine (hS2.out).mono ?_
        rintro e w7 ⟨rfl, f7⟩
        have F7 := Lib.hid (F1.out.trans' f7 (fun _ _ e => e))
        clear f7 hS2 HL2
        have hB2 := Lib.hid (HB.out hi _ (HF0.out.trans' F7.out (fun _ _ e => e)))
        have HL3 := Lib.hid (HLd.out _ F7.out).1
        cases hph : p hi
        · rw [hph] at hB2
          go_wp2_with (first
            | ((with_reducible refine wpl_ldg ?_ ?_ HL3.out ?_); (· rfl); (· rfl); simp only [Act.put, List.setIfInBounds_toArray, List.set_cons_zero, List.set_cons_succ]))
          refine (hB2.out).mono ?_
          rintro e w8 ⟨rfl, f8⟩
          have F8 := Lib.hid (F7.out.trans' f8 (fun _ _ e => e))
          have HN2 : Hid (∀ k, 0 ≤ k → k < hi + 1 → p k = false) := Lib.hid (fun k h1 h2 => by
            by_cases e : k = hi
            · rw [e]; exact hph
            · exact hno.out k h1 (by omega))
          clear f8 hB2 HL3 hno
          go_wp2
          go_roundw
          case rel => exact ⟨0, hi + 1, by omega, by omega, by omega, by first | rfl | go_num, by go_num, HN2, F8⟩
          case measure => simp [intOf]; omega
        · rw [hph] at hB2
          go_wp2_with (first
            | ((with_reducible refine wpl_ldg ?_ ?_ HL3.out ?_); (· rfl); (· rfl); simp only [Act.put, List.setIfInBounds_toArray, List.set_cons_zero, List.set_cons_succ]))
          refine (hB2.out).mono ?_
          rintro e w8 ⟨rfl, f8⟩
          have F8 := Lib.hid (F7.out.trans' f8 (fun _ _ e => e))
          have HE : Hid (loP p i = 0 ∧ hiP p L i = hi) := Lib.hid ⟨lo_is hli (fun k h1 h2 => hno.out k h1 (by omega)) (.inl rfl), hi_is hhL hih (fun k h1 h2 => hno.out k (by omega) h2) (.inr hph)⟩
          clear f8 hB2 HL3 hno
          go_wp2
          try rw [Exit.noGoto_ret]
          refine bodyPost_ret (results_tmp2 rfl _ _ _) rfl ?_
          exact ⟨by rw [HE.out.1, HE.out.2]; rfl, HF0.out.trans' F8.out (fun _ _ e => e)⟩
      · have HS2 := Lib.hid (fun (hq : ¬ (hi + 1 < L)) => HSf.out ((hi : Int) + 1) (by omega))
        have hS2 := Lib.hid (HS2.out (by omega) _ (HF0.out.trans' F1.out (fun _ _ e => e)))
        have HL2 := Lib.hid (HLd.out _ F1.out).1
        go_wp2_with (first
          | ((with_reducible refine wpl_ld ?_ ?_ HL2.out ?_); (· rfl); (· rfl); simp only [Act.put, List.setIfInBounds_toArray, List.set_cons_zero, List.set_cons_succ]))
        refine (hS2.out).mono ?_
        rintro e w7 ⟨rfl, f7⟩
        have F7 := Lib.hid (F1.out.trans' f7 (fun _ _ e => e))
        clear f7 hS2 HL2
        have HE : Hid (loP p i = 0 ∧ hiP p L i = hi) := Lib.hid ⟨lo_is hli (fun k h1 h2 => hno.out k h1 (by omega)) (.inl rfl), hi_is hhL hih (fun k h1 h2 => hno.out k (by omega) h2) (.inl (by omega))⟩
        clear hno
        go_wp2
        try rw [Exit.noGoto_ret]
        refine bodyPost_ret (results_tmp2 rfl _ _ _) rfl ?_
        exact ⟨by rw [HE.out.1, HE.out.2]; rfl, HF0.out.trans' F7.out (fun _ _ e => e)⟩
    · have hS1 := Lib.hid (HSt.out ((lo : Int) - 1) (by omega) (by omega) _ (HF0.out.trans' hfr.out (fun _ _ e => e)))
      go_wp2_with (first
        | ((with_reducible refine wpl_ld ?_ ?_ HL.out ?_); (· rfl); (· rfl); simp only [Act.put, List.setIfInBounds_toArray, List.set_cons_zero, List.set_cons_succ]))
      refine (hS1.out).mono ?_
      rintro e w1 ⟨rfl, f1⟩
      have F1 := Lib.hid (hfr.out.trans' f1 (fun _ _ e => e))
      have HL1 := Lib.hid (HLd.out _ F1.out).1
      have hB1 := Lib.hid (HB.out (lo - 1) _ (HF0.out.trans' F1.out (fun _ _ e => e)))
      rw [show ((lo - 1 : Nat) : Int) = (lo : Int) - 1 by omega] at hB1
      clear f1 hS1 HL
      cases hpl : p (lo - 1)
      · rw [hpl] at hB1
        go_wp2_with (first
          | ((with_reducible refine wpl_ldg ?_ ?_ HL1.out ?_); (· rfl); (· rfl); simp only [Act.put, List.setIfInBounds_toArray, List.set_cons_zero, List.set_cons_succ]))
        refine (hB1.out).mono ?_
        rintro e w2 ⟨rfl, f2⟩
        have F2 := Lib.hid (F1.out.trans' f2 (fun _ _ e => e))
        have HN2 : Hid (∀ k, lo - 1 ≤ k → k < hi → p k = false) := Lib.hid (fun k h1 h2 => by
          by_cases e : k = lo - 1
          · rw [e]; exact hpl
          · exact hno.out k (by omega) h2)
        clear f2 hB1 HL1 hno
        go_wp2
        go_roundw
        case rel => exact ⟨lo - 1, hi, by omega, by omega, by omega, by go_num, rfl, HN2, F2⟩
        case measure => simp [intOf]; omega
      · rw [hpl] at hB1
        have hlo0 : Hid (lo = 0 ∨ p (lo - 1) = true) := Lib.hid (.inr hpl)
        go_wp2_with (first
          | ((with_reducible refine wpl_ldg ?_ ?_ HL1.out ?_); (· rfl); (· rfl); simp only [Act.put, List.setIfInBounds_toArray, List.set_cons_zero, List.set_cons_succ]))
        refine (hB1.out).mono ?_
        rintro e w2 ⟨rfl, f2⟩
        have F2 := Lib.hid (F1.out.trans' f2 (fun _ _ e => e))
        clear f2 hB1 HL1
        by_cases hhi : hi + 1 < L
        · have HS2 := Lib.hid (fun (hq : hi + 1 < L) => HSt.out ((hi : Int) + 1) (by omega) (by omega))
          have hS2 := Lib.hid (HS2.out (by omega) _ (HF0.out.trans' F2.out (fun _ _ e => e)))
          have HL2 := Lib.hid (HLd.out _ F2.out).1
          go_wp2_with (first
            | ((with_reducible refine wpl_ld ?_ ?_ HL2.out ?_); (· rfl); (· rfl); simp only [Act.put, List.setIfInBounds_toArray, List.set_cons_zero, List.set_cons_succ]))
          refine (hS2.out).mono ?_
          rintro e w7 ⟨rfl, f7⟩
          have F7 := Lib.hid (F2.out.trans' f7 (fun _ _ e => e))
          clear f7 hS2 HL2
          have hB2 := Lib.hid (HB.out hi _ (HF0.out.trans' F7.out (fun _ _ e => e)))
          have HL3 := Lib.hid (HLd.out _ F7.out).1
          cases hph : p hi
          · rw [hph] at hB2
            go_wp2_with (first
              | ((with_reducible refine wpl_ldg ?_ ?_ HL3.out ?_); (· rfl); (· rfl); simp only [Act.put, List.setIfInBounds_toArray, List.set_cons_zero, List.set_cons_succ]))
            refine (hB2.out).mono ?_
            rintro e w8 ⟨rfl, f8⟩
            have F8 := Lib.hid (F7.out.trans' f8 (fun _ _ e => e))
            have HN2 : Hid (∀ k, lo ≤ k → k < hi + 1 → p k = false) := Lib.hid (fun k h1 h2 => by
              by_cases e : k = hi
              · rw [e]; exact hph
              · exact hno.out k h1 (by omega))
            clear f8 hB2 HL3 hno
            go_wp2
            go_roundw
            case rel => exact ⟨lo, hi + 1, by omega, by omega, by omega, by first | rfl | go_num, by go_num, HN2, F8⟩
            case measure => simp [intOf]; omega
          · rw [hph] at hB2
            go_wp2_with (first
              | ((with_reducible refine wpl_ldg ?_ ?_ HL3.out ?_); (· rfl); (· rfl); simp only [Act.put, List.setIfInBounds_toArray, List.set_cons_zero, List.set_cons_succ]))
            refine (hB2.out).mono ?_
            rintro e w8 ⟨rfl, f8⟩
            have F8 := Lib.hid (F7.out.trans' f8 (fun _ _ e => e))
            have HE : Hid (loP p i = lo ∧ hiP p L i = hi) := Lib.hid ⟨lo_is hli (fun k h1 h2 => hno.out k h1 (by omega)) hlo0.out, hi_is hhL hih (fun k h1 h2 => hno.out k (by omega) h2) (.inr hph)⟩
            clear f8 hB2 HL3 hno
            go_wp2
            try rw [Exit.noGoto_ret]
            refine bodyPost_ret (results_tmp2 rfl _ _ _) rfl ?_
            exact ⟨by rw [HE.out.1, HE.out.2]; rfl, HF0.out.trans' F8.out (fun _ _ e => e)⟩
        · have HS2 := Lib.hid (fun (hq : ¬ (hi + 1 < L)) => HSf.out ((hi : Int) + 1) (by omega))
          have hS2 := Lib.hid (HS2.out (by omega) _ (HF0.out.trans' F2.out (fun _ _ e => e)))
          have HL2 := Lib.hid (HLd.out _ F2.out).1
          go_wp2_with (first
            | ((with_reducible refine wpl_ld ?_ ?_ HL2.out ?_); (· rfl); (· rfl); simp only [Act.put, List.setIfInBounds_toArray, List.set_cons_zero, List.set_cons_succ]))
          refine (hS2.out).mono ?_
          rintro e w7 ⟨rfl, f7⟩
          have F7 := Lib.hid (F2.out.trans' f7 (fun _ _ e => e))
          clear f7 hS2 HL2
          have HE : Hid (loP p i = lo ∧ hiP p L i = hi) := Lib.hid ⟨lo_is hli (fun k h1 h2 => hno.out k h1 (by omega)) hlo0.out, hi_is hhL hih (fun k h1 h2 => hno.out k (by omega) h2) (.inl (by omega))⟩
          clear hno
          go_wp2
          try rw [Exit.noGoto_ret]
          refine bodyPost_ret (results_tmp2 rfl _ _ _) rfl ?_
          exact ⟨by rw [HE.out.1, HE.out.2]; rfl, HF0.out.trans' F7.out (fun _ _ e => e)⟩
end Go.Proofs.Ytkihbjgmmaklaaa
/- Package units: the bounds of a unit; is one open? -/
namespace Go.Proofs.Ytkihbjgmmaklaaa
open Go.RowKit

def Unt (x : PCt) (c d i : Int) (w : World) (e : Ending) (w' : World) : Prop := e = .returned (.tuple #[.int .i64 (x.uLo c d i), .int .i64 (x.uHi c d i), .bool (x.isU c d i)]) ∧ Fr No w w'
theorem grownI_any (x : Ctl) (c d i : Int) (w : World) (hx : Clss w x.cA x.cls) (hF : x.Few) (h : x.p.isU c d i = true) :
    Calls Try.prog 28 #[x.agg, .int .i64 c, .int .i64 d, .int .i64 i] w fun e w' => e = .returned (.tuple #[.int .i64 (x.p.uLo c d i), .int .i64 (x.p.uHi c d i)]) ∧ Fr No w w' := by
  have e1 : x.p.uLo c d i = (loP (x.p.bks c d) i.toNat : Nat) := by unfold PCt.uLo; rw [if_pos h]
  have e2 : x.p.uHi c d i = (hiP (x.p.bks c d) (x.p.steps c) i.toNat : Nat) := by unfold PCt.uHi; rw [if_pos h]
  rw [e1, e2]
  obtain ⟨hc, -, hi0, hi1⟩ := isU_parts h
  rw [has_eq, decide_eq_true_eq] at hc
  obtain ⟨c, rfl⟩ := Int.eq_ofNat_of_zero_le hc.1
  obtain ⟨i, rfl⟩ := Int.eq_ofNat_of_zero_le hi0
  have hc' : c < x.cls.length := by omega
  rw [steps_eq x hc'] at hi1 ⊢
  rw [Int.toNat_natCast]
  exact grown_any x c i d w hx hF hc' (by omega)
set_option maxRecDepth 100000 in
set_option maxHeartbeats 2000000 in
theorem bounds_any (x : Ctl) (c d i : Int) (w : World) (hx : Clss w x.cA x.cls) (hok : x.p.ok = true) : Calls Try.prog 10 #[x.agg, .int .i64 c, .int .i64 d, .int .i64 i] w (Unt x.p c d i w) := by
  have HM := Lib.hid (fun W (h : Fr No w W) => may12_any x W (hx.since h) (nice_of_ok hok))
  rw [hok] at HM
  have HS := Lib.hid (fun W (h : Fr No w W) => hasStep_any x c i W (hx.since h))
  have HC := Lib.hid (fun W => hasClass_any x d W)
  have HG := Lib.hid (fun (hu : x.p.isU c d i = true) W (h : Fr No w W) => grownI_any x c d i W (hx.since h) (nice_of_ok hok).few hu)
  have HE := Lib.hid (x.p.isU_eq c d i)
  have HN : Hid (x.p.isU c d i = false → x.p.uLo c d i = 0 ∧ x.p.uHi c d i = 0) := Lib.hid (fun h => by unfold PCt.uLo PCt.uHi; rw [h]; exact ⟨rfl, rfl⟩)
  unfold Unt
  generalize x.p.isU c d i = u at *
  generalize x.p.uLo c d i = lo at *
  generalize x.p.uHi c d i = hi at *
  generalize x.p.hasS c i = s at *
  generalize x.p.has d = t at *
  unfold Ctl.agg at HM HS HC HG ⊢
  obtain ⟨Z, hZ⟩ : ∃ Z, Z = x.arr := ⟨_, rfl⟩
  rw [← hZ] at HM HS HC HG ⊢
  rw [Ctl.arr_eq] at hZ
  obtain ⟨W0, hW0⟩ : ∃ W0, W0 = w.alloc (.cells Z 26) := ⟨_, rfl⟩
  have bZ : Bk W0 w.heap.size 26 Z := by rw [hW0]; exact Bk.made w _ _
  have HF0 : Hid (Fr No w W0) := Lib.hid (by rw [hW0]; exact (Fr.refl _ _).alloc _)
  have HLd : Hid (∀ V, Fr No W0 V → LdO V 26 ⟨w.heap.size, 0, none⟩ (.agg Z) ∧ V.cell? ⟨w.heap.size, 0, none⟩ = some (.slice x.cA x.cls.length x.cc)) := Lib.hid (fun V h => ⟨ld_cat hZ (bZ.fr h (fun e => e)), by rw [(bZ.fr h (fun e => e)).cell, hZ]; rfl⟩)
  have hwe := hW0.symm
  clear hZ hW0 bZ
  clear hx hok
  have HL := Lib.hid (HLd.out W0 (Fr.refl _ _)).1
  have HM0 := Lib.hid (HM.out _ HF0.out)
  go_enter Try.func10, Try.ntmps10
  go_wp2_with (first
    | ((with_reducible refine wpl_ld ?_ ?_ HL.out ?_); (· rfl); (· rfl); simp only [Act.put, List.setIfInBounds_toArray, List.set_cons_zero, List.set_cons_succ]))
  refine (HM0.out).mono ?_
  rintro e w1 ⟨rfl, f1⟩
  have HL1 := Lib.hid (HLd.out w1 f1).1
  have HS1 := Lib.hid (HS.out _ (HF0.out.trans' f1 (fun _ _ e => e)))
  have F1 := Lib.hid f1
  clear f1 HL HM0 HM HS
  cases s
  · have hu : u = false := by rw [HE.out]; rfl
    have HX : Hid (u = false ∧ lo = 0 ∧ hi = 0) := Lib.hid ⟨hu, HN.out hu⟩
    clear hu HG HE HN
    go_wp2_with (first
      | ((with_reducible refine wpl_ldg ?_ ?_ HL1.out ?_); (· rfl); (· rfl); simp only [Act.put, List.setIfInBounds_toArray, List.set_cons_zero, List.set_cons_succ]))
    refine (HS1.out).mono ?_
    rintro e w2 ⟨rfl, f2⟩
    go_wp2
    refine bodyPost_ret (results_tmp3 rfl _ _ _) rfl ?_
    exact ⟨by rw [HX.out.1, HX.out.2.1, HX.out.2.2]; rfl, HF0.out.trans' (F1.out.trans' f2 (fun _ _ e => e)) (fun _ _ e => e)⟩
  go_wp2_with (first
    | ((with_reducible refine wpl_ldg ?_ ?_ HL1.out ?_); (· rfl); (· rfl); simp only [Act.put, List.setIfInBounds_toArray, List.set_cons_zero, List.set_cons_succ]))
  refine (HS1.out).mono ?_
  rintro e w2 ⟨rfl, f2⟩
  have F2 := Lib.hid (F1.out.trans' f2 (fun _ _ e => e))
  have HL2 := Lib.hid (HLd.out w2 F2.out).1
  clear f2 HL1 HS1
  cases t
  · have hu : u = false := by rw [HE.out]; rfl
    have HX : Hid (u = false ∧ lo = 0 ∧ hi = 0) := Lib.hid ⟨hu, HN.out hu⟩
    clear hu HG HE HN
    go_wp2_with (first
      | ((with_reducible refine wpl_ldg ?_ ?_ HL2.out ?_); (· rfl); (· rfl); simp only [Act.put, List.setIfInBounds_toArray, List.set_cons_zero, List.set_cons_succ]))
    refine (HC.out _).mono ?_
    rintro e w3 ⟨rfl, f3⟩
    go_wp2
    refine bodyPost_ret (results_tmp3 rfl _ _ _) rfl ?_
    exact ⟨by rw [HX.out.1, HX.out.2.1, HX.out.2.2]; rfl, HF0.out.trans' (F2.out.trans' f3 (fun _ _ e => e)) (fun _ _ e => e)⟩
  have HX : Hid (u = true) := Lib.hid (by rw [HE.out]; rfl)
  have HG2 := Lib.hid (HG.out HX.out)
  clear HG HE HN
  go_wp2_with (first
    | ((with_reducible refine wpl_ldg ?_ ?_ HL2.out ?_); (· rfl); (· rfl); simp only [Act.put, List.setIfInBounds_toArray, List.set_cons_zero, List.set_cons_succ]))
  refine (HC.out _).mono ?_
  rintro e w3 ⟨rfl, f3⟩
  have F3 := Lib.hid (F2.out.trans' f3 (fun _ _ e => e))
  have HL3 := Lib.hid (HLd.out w3 F3.out).1
  have HG3 := Lib.hid (HG2.out _ (HF0.out.trans' F3.out (fun _ _ e => e)))
  clear f3 HL2 HG2
  go_wp2_with (first
    | ((with_reducible refine wpl_ld ?_ ?_ HL3.out ?_); (· rfl); (· rfl); simp only [Act.put, List.setIfInBounds_toArray, List.set_cons_zero, List.set_cons_succ]))
  refine (HG3.out).mono ?_
  rintro e w4 ⟨rfl, f4⟩
  go_wp2
  refine bodyPost_ret (results_tmp3 rfl _ _ _) rfl ?_
  exact ⟨by rw [HX.out]; rfl, HF0.out.trans' (F3.out.trans' f4 (fun _ _ e => e)) (fun _ _ e => e)⟩
theorem open_eq {x : PCt} (hok : x.ok = true) {c d n : Int} (hn : I64 n) : (x.isU c d (IntKind.i64.wrap (n - 1)) && decide (n ≤ x.uHi c d (IntKind.i64.wrap (n - 1)))) = x.uOpen c d n := by
  unfold PCt.uOpen
  unfold I64 at hn
  by_cases h : n = -9223372036854775808
  · subst h
    have hno : ∀ j : Int, 1000 < j → x.isU c d j = false := fun j hj => by
      cases e : x.isU c d j
      · rfl
      · obtain ⟨h1, h2, h3, h4⟩ := isU_parts e
        unfold PCt.has at h1
        rw [decide_eq_true_eq] at h1
        have h5 := pct_len4 hok (c := c.toNat) (by omega)
        unfold PCt.steps at h4
        omega
    rw [show IntKind.i64.wrap (-9223372036854775808 - 1) = 9223372036854775807 by decide, hno _ (by omega)]
    rfl
  · have hw : IntKind.i64.wrap (n - 1) = n - 1 := by rw [IntKind.wrap_i64]; omega
    rw [hw]
    by_cases h0 : 0 < n
    · rw [decide_eq_true h0, Bool.true_and]
    · rw [decide_eq_false h0, Bool.false_and]
      have : x.isU c d (n - 1) = false := by
        unfold PCt.isU
        rw [decide_eq_false (show ¬ (0 ≤ n - 1 ∧ n - 1 < (x.steps c : Int)) by omega)]
        simp
      rw [this]
      rfl
set_option maxRecDepth 100000 in
set_option maxHeartbeats 2000000 in
theorem openU_any (x : Ctl) (c d n : Int) (w : World) (hx : Clss w x.cA x.cls) (hok : x.p.ok = true) (hn : I64 n) : Calls Try.prog 12 #[x.agg, .int .i64 c, .int .i64 d, .int .i64 n] w (Has w (x.p.uOpen c d n)) := by
  rw [← open_eq hok hn]
  have HB := Lib.hid (fun W (h : Fr No w W) => bounds_any x c d (IntKind.i64.wrap (n - 1)) W (hx.since h) hok)
  unfold Unt at HB
  generalize x.p.isU c d (IntKind.i64.wrap (n - 1)) = u at *
  generalize x.p.uLo c d (IntKind.i64.wrap (n - 1)) = lo at *
  generalize x.p.uHi c d (IntKind.i64.wrap (n - 1)) = hi at *
  obtain ⟨j, hj⟩ : ∃ j, IntKind.i64.wrap (n - 1) = j := ⟨_, rfl⟩
  rw [hj] at HB
  unfold Ctl.agg at HB ⊢
  obtain ⟨Z, hZ⟩ : ∃ Z, Z = x.arr := ⟨_, rfl⟩
  rw [← hZ] at HB ⊢
  rw [Ctl.arr_eq] at hZ
  obtain ⟨W0, hW0⟩ : ∃ W0, W0 = w.alloc (.cells Z 26) := ⟨_, rfl⟩
  have bZ : Bk W0 w.heap.size 26 Z := by rw [hW0]; exact Bk.made w _ _
  have HF0 : Hid (Fr No w W0) := Lib.hid (by rw [hW0]; exact (Fr.refl _ _).alloc _)
  have HLd : Hid (∀ V, Fr No W0 V → LdO V 26 ⟨w.heap.size, 0, none⟩ (.agg Z) ∧ V.cell? ⟨w.heap.size, 0, none⟩ = some (.slice x.cA x.cls.length x.cc)) := Lib.hid (fun V h => ⟨ld_cat hZ (bZ.fr h (fun e => e)), by rw [(bZ.fr h (fun e => e)).cell, hZ]; rfl⟩)
  have hwe := hW0.symm
  clear hZ hW0 bZ
  clear hx hok hn
  have HL := Lib.hid (HLd.out W0 (Fr.refl _ _)).1
  have HB0 := Lib.hid (HB.out _ HF0.out)
  clear HB
  go_enter Try.func12, Try.ntmps12
  go_wp2_with (first
    | ((with_reducible refine wpl_ld ?_ ?_ HL.out ?_); (· rfl); (· rfl); simp only [Act.put, List.setIfInBounds_toArray, List.set_cons_zero, List.set_cons_succ]))
  refine (HB0.out).mono ?_
  rintro e w1 ⟨rfl, f1⟩
  have HF1 := Lib.hid (HF0.out.trans' f1 (fun _ _ e => e))
  clear f1 HB0 HL HLd
  cases u
  · go_wp2
    go_ret
    exact ⟨rfl, HF1.out⟩
  · by_cases h : n ≤ hi
    · have d1 : decide (n ≤ hi) = true := decide_eq_true h
      have D1 := Lib.hid d1
      go_wp2
      go_ret
      exact ⟨by rw [D1.out]; rfl, HF1.out⟩
    · have d1 : decide (n ≤ hi) = false := decide_eq_false h
      have D1 := Lib.hid d1
      go_wp2
      go_ret
      exact ⟨by rw [D1.out]; rfl, HF1.out⟩
end Go.Proofs.Ytkihbjgmmaklaaa
/- The document's example of units. -/
namespace Go.Proofs.Ytkihbjgmmaklaaa
open Go.RowKit

def exB14 (j : Nat) : Int := if j = 0 then 2 else 0
def exP14 : PCt := ⟨[⟨⟨#[97]⟩, 0, [([exI], []), ([exI], []), ([exI], [])], [([], []), ([], []), ([], [])], false⟩], exB14⟩
theorem ex14_ok : exP14.ok = true := by decide
theorem ex14_u : exP14.isU 0 0 0 = true ∧ exP14.uLo 0 0 0 = 0 ∧ exP14.uHi 0 0 0 = 1 := by decide
structure Ex14 (V : World) (H C A1 A2 X : Nat) : Prop where
  i : Bk V H 50 iA
  s : Bk V A1 54 (sA12 H)
  z : Bk V A2 54 zA12
  c : Bk V C 35 (cA12 A1 A2)
  x : Bk V X 26 (brA (.slice (some ⟨C, 0, none⟩) 1 1) fun _ => 0)
def zB14 : Array Value := brA (.slice none 0 0) fun _ => 0
set_option maxRecDepth 100000 in
set_option maxHeartbeats 8000000 in
theorem alive14 (w : World) : Calls Try.prog 8 #[] w (Has w true) := by
  obtain ⟨V0, hV0⟩ : ∃ V0, V0 = (w.alloc (.cells #[.int .i64 5, .int .i64 0, .int .i64 0, .int .i64 0, .int .i64 0, .int .i64 0, .int .i64 0, .int .i64 0, .int .i64 0] 50)).alloc (.cells #[.slice (some ⟨w.heap.size, 0, none⟩) 1 1, .slice none 0 0] 54) := ⟨_, rfl⟩
  have G0 : Hid (Fr No w V0) := Lib.hid (by rw [hV0]; exact ((Fr.refl _ _).alloc _).alloc _)
  have bI : Hid (Bk V0 w.heap.size 50 iA) := Lib.hid (by rw [hV0]; exact bka12 (Bk.made _ _ _) _)
  have bS : Bk V0 (w.heap.size + 1) 54 #[.slice (some ⟨w.heap.size, 0, none⟩) 1 1, .slice none 0 0] := by rw [hV0]; exact bkm12 (by simp)
  have n0 : Hid (V0.heap.size = w.heap.size + 2) := Lib.hid (by rw [hV0]; simp)
  have HS : Hid (∀ V, Fr (fun i => V0.heap.size ≤ i) V0 V → V.cell? ⟨w.heap.size + 1, 0, none⟩ = some (.slice (some ⟨w.heap.size, 0, none⟩) 1 1) ∧ V.cell? ⟨w.heap.size + 1, 1, none⟩ = some (.slice none 0 0)) := Lib.hid (fun V h => by
    have b := bS.fr h (fun e => by have := n0.out; omega)
    exact ⟨b.cell 0, b.cell 1⟩)
  clear bS
  go_enter Try.func8, Try.ntmps8
  go_wp2_with fail
  rw [← hV0]
  clear hV0
  go_cut [2] from 9 to 16 (fun s2 wx => ∃ X C A1 A2 : Nat, s2 = .pointer (some ⟨X, 0, none⟩) ∧ w.heap.size ≤ X ∧ Hid (Fr No w wx) ∧ Hid (Ex14 wx w.heap.size C A1 A2 X))
  case first =>
    refine wp_region_held_drew (S := fun V => V.cell? ⟨w.heap.size + 1, 0, none⟩ = some (.slice (some ⟨w.heap.size, 0, none⟩) 1 1) ∧ V.cell? ⟨w.heap.size + 1, 1, none⟩ = some (.slice none 0 0)) (by kernel_rfl) (HS.out _ ((Fr.refl _ V0).drew)) (fun hHeld => ?_)
    refine any_take 9 (.agg #[.slice (some ⟨w.heap.size, 0, none⟩) 1 1, .slice none 0 0]) (i := 0) rfl rfl (by kernel_rfl) (by kernel_rfl) (by kernel_rfl) (fun _ _ _ h => h) (by rfl) (by intro w hSw; (try dsimp only at hSw); go_simp; try with_reducible rfl) (by assumption) ?_
    simp only [Act.put, List.setIfInBounds_toArray, List.set_cons_zero, List.set_cons_succ]
    refine any_take 10 (.agg #[.slice (some ⟨w.heap.size, 0, none⟩) 1 1, .slice none 0 0]) (i := 1) rfl rfl (by kernel_rfl) (by kernel_rfl) (by kernel_rfl) (fun _ _ _ h => h) (by rfl) (by intro w hSw; (try dsimp only at hSw); go_simp; try with_reducible rfl) (by assumption) ?_
    simp only [Act.put, List.setIfInBounds_toArray, List.set_cons_zero, List.set_cons_succ]
    refine any_take 11 (.agg #[.slice (some ⟨w.heap.size, 0, none⟩) 1 1, .slice none 0 0]) (i := 2) rfl rfl (by kernel_rfl) (by kernel_rfl) (by kernel_rfl) (fun _ _ _ h => h) (by rfl) (by intro w hSw; (try dsimp only at hSw); go_simp; try with_reducible rfl) (by assumption) ?_
    simp only [Act.put, List.setIfInBounds_toArray, List.set_cons_zero, List.set_cons_succ]
    have D0 : Hid (Fr No V0 V0.drew) := Lib.hid ((Fr.refl No V0).drew)
    have m0 : Hid (V0.drew.heap.size = V0.heap.size) := Lib.hid rfl
    refine wpAnyH_ready (rs := [3, 4, 8]) (by kernel_rfl) (by simp) ?_
    refine AllReadyH.cons rfl (fun K' hK => ?_) (AllReadyH.cons rfl (fun K' hK => ?_) (AllReadyH.cons rfl (fun K' hK => ?_) AllReadyH.nil))
    · refine oneH_val (v := (.slice (some ⟨V0.drew.heap.size, 0, none⟩) 3 3)) (w' := V0.drew.alloc (.cells (sA12 w.heap.size) 54)) 12 rfl (by rfl) (by kernel_rfl) ?_
      simp only [Act.put, List.setIfInBounds_toArray, List.set_cons_zero, List.set_cons_succ]
      obtain ⟨v1, e1⟩ : ∃ V, Hid (V = V0.drew.alloc (.cells (sA12 w.heap.size) 54)) := ⟨_, Lib.hid rfl⟩
      rw [← e1.out]
      have g1 : Hid (Fr No V0.drew v1) := Lib.hid (by rw [e1.out]; exact (Fr.refl _ _).alloc _)
      have q1 : Hid (Bk v1 V0.drew.heap.size 54 (sA12 w.heap.size)) := Lib.hid (by rw [e1.out]; exact Bk.made _ _ _)
      have n1 : Hid (v1.heap.size = V0.drew.heap.size + 1) := Lib.hid (by rw [e1.out]; simp)
      have D1 : Hid (Fr No V0 v1) := Lib.hid (D0.out.trans' g1.out (fun _ _ e => e))
      refine hK.out _ _ (HS.out _ (D1.out.weak (fun _ _ e => e.elim))) (fun hHeld => ?_)
      clear hK e1
      refine wpAnyH_ready (rs := [4, 8]) (by kernel_rfl) (by simp) ?_
      refine AllReadyH.cons rfl (fun K' hK => ?_) (AllReadyH.cons rfl (fun K' hK => ?_) AllReadyH.nil)
      · refine oneH_val (v := (.slice (some ⟨v1.heap.size, 0, none⟩) 3 3)) (w' := v1.alloc (.cells zA12 54)) 13 rfl (by rfl) (by kernel_rfl) ?_
        simp only [Act.put, List.setIfInBounds_toArray, List.set_cons_zero, List.set_cons_succ]
        obtain ⟨v2, e2⟩ : ∃ V, Hid (V = v1.alloc (.cells zA12 54)) := ⟨_, Lib.hid rfl⟩
        rw [← e2.out]
        have g2 : Hid (Fr No v1 v2) := Lib.hid (by rw [e2.out]; exact (Fr.refl _ _).alloc _)
        have q2 : Hid (Bk v2 v1.heap.size 54 zA12) := Lib.hid (by rw [e2.out]; exact Bk.made _ _ _)
        have n2 : Hid (v2.heap.size = v1.heap.size + 1) := Lib.hid (by rw [e2.out]; simp)
        have D2 : Hid (Fr No V0 v2) := Lib.hid (D1.out.trans' g2.out (fun _ _ e => e))
        refine hK.out _ _ (HS.out _ (D2.out.weak (fun _ _ e => e.elim))) (fun hHeld => ?_)
        clear hK e2
        refine any_take 14 (.agg #[.string ⟨#[97]⟩, .int .i64 0, .slice (some ⟨V0.drew.heap.size, 0, none⟩) 3 3, .slice (some ⟨v1.heap.size, 0, none⟩) 3 3, .bool false]) (i := 5) rfl rfl (by kernel_rfl) (by kernel_rfl) (by kernel_rfl) (fun _ _ _ h => h) (by rfl) (by intro w hSw; kernel_rfl) (by assumption) ?_
        simp only [Act.put, List.setIfInBounds_toArray, List.set_cons_zero, List.set_cons_succ]
        refine wpAnyH_ready (rs := [6, 8]) (by kernel_rfl) (by simp) ?_
        refine AllReadyH.cons rfl (fun K' hK => ?_) (AllReadyH.cons rfl (fun K' hK => ?_) AllReadyH.nil)
        · refine oneH_val (v := (.slice (some ⟨v2.heap.size, 0, none⟩) 1 1)) (w' := v2.alloc (.cells (cA12 (V0.drew.heap.size) (v1.heap.size)) 35)) 15 rfl (by rfl) (by kernel_rfl) ?_
          simp only [Act.put, List.setIfInBounds_toArray, List.set_cons_zero, List.set_cons_succ]
          obtain ⟨v3, e3⟩ : ∃ V, Hid (V = v2.alloc (.cells (cA12 (V0.drew.heap.size) (v1.heap.size)) 35)) := ⟨_, Lib.hid rfl⟩
          rw [← e3.out]
          have g3 : Hid (Fr No v2 v3) := Lib.hid (by rw [e3.out]; exact (Fr.refl _ _).alloc _)
          have q3 : Hid (Bk v3 v2.heap.size 35 (cA12 (V0.drew.heap.size) (v1.heap.size))) := Lib.hid (by rw [e3.out]; exact Bk.made _ _ _)
          have n3 : Hid (v3.heap.size = v2.heap.size + 1) := Lib.hid (by rw [e3.out]; simp)
          have D3 : Hid (Fr No V0 v3) := Lib.hid (D2.out.trans' g3.out (fun _ _ e => e))
          refine hK.out _ _ (HS.out _ (D3.out.weak (fun _ _ e => e.elim))) (fun hHeld => ?_)
          clear hK e3
          refine any_take 16 (.agg (brA (.slice (some ⟨v2.heap.size, 0, none⟩) 1 1) fun _ => 0)) (i := 7) rfl rfl (by kernel_rfl) (by kernel_rfl) (by kernel_rfl) (fun _ _ _ h => h) (by rfl) (by intro w hSw; kernel_rfl) (by assumption) ?_
          simp only [Act.put, List.setIfInBounds_toArray, List.set_cons_zero, List.set_cons_succ]
          refine wpAnyH_ready (rs := [8]) (by kernel_rfl) (by simp) ?_
          refine AllReadyH.cons rfl (fun K' hK => ?_) AllReadyH.nil
          refine oneH_val (v := (.pointer (some ⟨v3.heap.size, 0, none⟩))) (w' := v3.alloc (.cells zB14 26)) 2 rfl (by rfl) (by kernel_rfl) ?_
          simp only [Act.put, List.setIfInBounds_toArray, List.set_cons_zero, List.set_cons_succ]
          obtain ⟨v4, e4⟩ : ∃ V, Hid (V = v3.alloc (.cells zB14 26)) := ⟨_, Lib.hid rfl⟩
          rw [← e4.out]
          have g4 : Hid (Fr No v3 v4) := Lib.hid (by rw [e4.out]; exact (Fr.refl _ _).alloc _)
          have q4 : Hid (Bk v4 v3.heap.size 26 zB14) := Lib.hid (by rw [e4.out]; exact Bk.made _ _ _)
          have n4 : Hid (v4.heap.size = v3.heap.size + 1) := Lib.hid (by rw [e4.out]; simp)
          have D4 : Hid (Fr No V0 v4) := Lib.hid (D3.out.trans' g4.out (fun _ _ e => e))
          refine hK.out _ _ (HS.out _ (D4.out.weak (fun _ _ e => e.elim))) (fun hHeld => ?_)
          clear hK e4
          have b4 := q4.out.fr (Fr.refl No v4) (fun e => e)
          have hsz : Hid (v1.heap.size = w.heap.size + 3 ∧ v2.heap.size = w.heap.size + 4 ∧ v3.heap.size = w.heap.size + 5 ∧ V0.drew.heap.size = w.heap.size + 2) := Lib.hid (by have := n0.out; have := m0.out; have := n1.out; have := n2.out; have := n3.out; omega)
          have st9 := st_cat (v' := .slice (some ⟨v2.heap.size, 0, none⟩) 1 1) (b' := fun _ => 0) rfl rfl rfl b4
          have x1 : Fr (Only (v3.heap.size)) v4 (v4.setRow (v3.heap.size) (brA (.slice (some ⟨v2.heap.size, 0, none⟩) 1 1) fun _ => 0)) := fr_row12 (Fr.refl (Only (v3.heap.size)) v4) (.inl rfl) _
          have HFin : Hid (Fr No w (v4.setRow (v3.heap.size) (brA (.slice (some ⟨v2.heap.size, 0, none⟩) 1 1) fun _ => 0))) := Lib.hid ((G0.out.trans' D4.out (fun _ _ e => e)).trans' x1 (fun i hi e => by have e : i = v3.heap.size := e; have := hsz.out; omega))
          have HEx : Hid (Ex14 (v4.setRow (v3.heap.size) (brA (.slice (some ⟨v2.heap.size, 0, none⟩) 1 1) fun _ => 0)) w.heap.size (v2.heap.size) (V0.drew.heap.size) (v1.heap.size) (v3.heap.size)) := Lib.hid ⟨(bI.out.fr D4.out (fun e => e)).fr x1 (fun e => by have e : w.heap.size = v3.heap.size := e; have := hsz.out; omega), (q1.out.fr ((((Fr.refl No v1).trans' g2.out (fun _ _ e => e)).trans' g3.out (fun _ _ e => e)).trans' g4.out (fun _ _ e => e)) (fun e => e)).fr x1 (fun e => by have e : V0.drew.heap.size = v3.heap.size := e; have := hsz.out; omega), (q2.out.fr (((Fr.refl No v2).trans' g3.out (fun _ _ e => e)).trans' g4.out (fun _ _ e => e)) (fun e => e)).fr x1 (fun e => by have e : v1.heap.size = v3.heap.size := e; have := hsz.out; omega), (q3.out.fr ((Fr.refl No v3).trans' g4.out (fun _ _ e => e)) (fun e => e)).fr x1 (fun e => by have e : v2.heap.size = v3.heap.size := e; have := hsz.out; omega), bk_row12 b4 _⟩
          have s9 := HS.out (v4.setRow (v3.heap.size) (brA (.slice (some ⟨v2.heap.size, 0, none⟩) 1 1) fun _ => 0)) ((D4.out.weak (fun _ _ e => e.elim)).trans' x1 (fun i _ e => by have e : i = v3.heap.size := e; have := hsz.out; have := n0.out; omega))
          have hle : w.heap.size ≤ v3.heap.size := by have := hsz.out; omega
          refine any_store12 (i := 9) (by kernel_rfl) rfl rfl (by rfl) (exec_st rfl rfl st9) s9 ?_
          refine wpAnyH_done (by kernel_rfl) ?_ _
          clear hHeld b4 st9 x1 s9
          go_wp2
          go_meet
          exact ⟨v3.heap.size, v2.heap.size, V0.drew.heap.size, v1.heap.size, rfl, hle, HFin, HEx⟩
        · refine oneH_val (v := (.pointer (some ⟨v2.heap.size, 0, none⟩))) (w' := v2.alloc (.cells zB14 26)) 2 rfl (by rfl) (by kernel_rfl) ?_
          simp only [Act.put, List.setIfInBounds_toArray, List.set_cons_zero, List.set_cons_succ]
          obtain ⟨v3, e3⟩ : ∃ V, Hid (V = v2.alloc (.cells zB14 26)) := ⟨_, Lib.hid rfl⟩
          rw [← e3.out]
          have g3 : Hid (Fr No v2 v3) := Lib.hid (by rw [e3.out]; exact (Fr.refl _ _).alloc _)
          have q3 : Hid (Bk v3 v2.heap.size 26 zB14) := Lib.hid (by rw [e3.out]; exact Bk.made _ _ _)
          have n3 : Hid (v3.heap.size = v2.heap.size + 1) := Lib.hid (by rw [e3.out]; simp)
          have D3 : Hid (Fr No V0 v3) := Lib.hid (D2.out.trans' g3.out (fun _ _ e => e))
          refine hK.out _ _ (HS.out _ (D3.out.weak (fun _ _ e => e.elim))) (fun hHeld => ?_)
          clear hK e3
          refine wpAnyH_ready (rs := [6]) (by kernel_rfl) (by simp) ?_
          refine AllReadyH.cons rfl (fun K' hK => ?_) AllReadyH.nil
          refine oneH_val (v := (.slice (some ⟨v3.heap.size, 0, none⟩) 1 1)) (w' := v3.alloc (.cells (cA12 (V0.drew.heap.size) (v1.heap.size)) 35)) 15 rfl (by rfl) (by kernel_rfl) ?_
          simp only [Act.put, List.setIfInBounds_toArray, List.set_cons_zero, List.set_cons_succ]
          obtain ⟨v4, e4⟩ : ∃ V, Hid (V = v3.alloc (.cells (cA12 (V0.drew.heap.size) (v1.heap.size)) 35)) := ⟨_, Lib.hid rfl⟩
          rw [← e4.out]
          have g4 : Hid (Fr No v3 v4) := Lib.hid (by rw [e4.out]; exact (Fr.refl _ _).alloc _)
          have q4 : Hid (Bk v4 v3.heap.size 35 (cA12 (V0.drew.heap.size) (v1.heap.size))) := Lib.hid (by rw [e4.out]; exact Bk.made _ _ _)
          have n4 : Hid (v4.heap.size = v3.heap.size + 1) := Lib.hid (by rw [e4.out]; simp)
          have D4 : Hid (Fr No V0 v4) := Lib.hid (D3.out.trans' g4.out (fun _ _ e => e))
          refine hK.out _ _ (HS.out _ (D4.out.weak (fun _ _ e => e.elim))) (fun hHeld => ?_)
          clear hK e4
          refine any_take 16 (.agg (brA (.slice (some ⟨v3.heap.size, 0, none⟩) 1 1) fun _ => 0)) (i := 7) rfl rfl (by kernel_rfl) (by kernel_rfl) (by kernel_rfl) (fun _ _ _ h => h) (by rfl) (by intro w hSw; kernel_rfl) (by assumption) ?_
          simp only [Act.put, List.setIfInBounds_toArray, List.set_cons_zero, List.set_cons_succ]
          have b4 := q3.out.fr ((Fr.refl No v3).trans' g4.out (fun _ _ e => e)) (fun e => e)
          have hsz : Hid (v1.heap.size = w.heap.size + 3 ∧ v2.heap.size = w.heap.size + 4 ∧ v3.heap.size = w.heap.size + 5 ∧ V0.drew.heap.size = w.heap.size + 2) := Lib.hid (by have := n0.out; have := m0.out; have := n1.out; have := n2.out; have := n3.out; omega)
          have st9 := st_cat (v' := .slice (some ⟨v3.heap.size, 0, none⟩) 1 1) (b' := fun _ => 0) rfl rfl rfl b4
          have x1 : Fr (Only (v2.heap.size)) v4 (v4.setRow (v2.heap.size) (brA (.slice (some ⟨v3.heap.size, 0, none⟩) 1 1) fun _ => 0)) := fr_row12 (Fr.refl (Only (v2.heap.size)) v4) (.inl rfl) _
          have HFin : Hid (Fr No w (v4.setRow (v2.heap.size) (brA (.slice (some ⟨v3.heap.size, 0, none⟩) 1 1) fun _ => 0))) := Lib.hid ((G0.out.trans' D4.out (fun _ _ e => e)).trans' x1 (fun i hi e => by have e : i = v2.heap.size := e; have := hsz.out; omega))
          have HEx : Hid (Ex14 (v4.setRow (v2.heap.size) (brA (.slice (some ⟨v3.heap.size, 0, none⟩) 1 1) fun _ => 0)) w.heap.size (v3.heap.size) (V0.drew.heap.size) (v1.heap.size) (v2.heap.size)) := Lib.hid ⟨(bI.out.fr D4.out (fun e => e)).fr x1 (fun e => by have e : w.heap.size = v2.heap.size := e; have := hsz.out; omega), (q1.out.fr ((((Fr.refl No v1).trans' g2.out (fun _ _ e => e)).trans' g3.out (fun _ _ e => e)).trans' g4.out (fun _ _ e => e)) (fun e => e)).fr x1 (fun e => by have e : V0.drew.heap.size = v2.heap.size := e; have := hsz.out; omega), (q2.out.fr (((Fr.refl No v2).trans' g3.out (fun _ _ e => e)).trans' g4.out (fun _ _ e => e)) (fun e => e)).fr x1 (fun e => by have e : v1.heap.size = v2.heap.size := e; have := hsz.out; omega), (q4.out.fr (Fr.refl No v4) (fun e => e)).fr x1 (fun e => by have e : v3.heap.size = v2.heap.size := e; have := hsz.out; omega), bk_row12 b4 _⟩
          have s9 := HS.out (v4.setRow (v2.heap.size) (brA (.slice (some ⟨v3.heap.size, 0, none⟩) 1 1) fun _ => 0)) ((D4.out.weak (fun _ _ e => e.elim)).trans' x1 (fun i _ e => by have e : i = v2.heap.size := e; have := hsz.out; have := n0.out; omega))
          have hle : w.heap.size ≤ v2.heap.size := by have := hsz.out; omega
          refine any_store12 (i := 9) (by kernel_rfl) rfl rfl (by rfl) (exec_st rfl rfl st9) s9 ?_
          refine wpAnyH_done (by kernel_rfl) ?_ _
          clear hHeld b4 st9 x1 s9
          go_wp2
          go_meet
          exact ⟨v2.heap.size, v3.heap.size, V0.drew.heap.size, v1.heap.size, rfl, hle, HFin, HEx⟩
      · refine oneH_val (v := (.pointer (some ⟨v1.heap.size, 0, none⟩))) (w' := v1.alloc (.cells zB14 26)) 2 rfl (by rfl) (by kernel_rfl) ?_
        simp only [Act.put, List.setIfInBounds_toArray, List.set_cons_zero, List.set_cons_succ]
        obtain ⟨v2, e2⟩ : ∃ V, Hid (V = v1.alloc (.cells zB14 26)) := ⟨_, Lib.hid rfl⟩
        rw [← e2.out]
        have g2 : Hid (Fr No v1 v2) := Lib.hid (by rw [e2.out]; exact (Fr.refl _ _).alloc _)
        have q2 : Hid (Bk v2 v1.heap.size 26 zB14) := Lib.hid (by rw [e2.out]; exact Bk.made _ _ _)
        have n2 : Hid (v2.heap.size = v1.heap.size + 1) := Lib.hid (by rw [e2.out]; simp)
        have D2 : Hid (Fr No V0 v2) := Lib.hid (D1.out.trans' g2.out (fun _ _ e => e))
        refine hK.out _ _ (HS.out _ (D2.out.weak (fun _ _ e => e.elim))) (fun hHeld => ?_)
        clear hK e2
        refine wpAnyH_ready (rs := [4]) (by kernel_rfl) (by simp) ?_
        refine AllReadyH.cons rfl (fun K' hK => ?_) AllReadyH.nil
        refine oneH_val (v := (.slice (some ⟨v2.heap.size, 0, none⟩) 3 3)) (w' := v2.alloc (.cells zA12 54)) 13 rfl (by rfl) (by kernel_rfl) ?_
        simp only [Act.put, List.setIfInBounds_toArray, List.set_cons_zero, List.set_cons_succ]
        obtain ⟨v3, e3⟩ : ∃ V, Hid (V = v2.alloc (.cells zA12 54)) := ⟨_, Lib.hid rfl⟩
        rw [← e3.out]
        have g3 : Hid (Fr No v2 v3) := Lib.hid (by rw [e3.out]; exact (Fr.refl _ _).alloc _)
        have q3 : Hid (Bk v3 v2.heap.size 54 zA12) := Lib.hid (by rw [e3.out]; exact Bk.made _ _ _)
        have n3 : Hid (v3.heap.size = v2.heap.size + 1) := Lib.hid (by rw [e3.out]; simp)
        have D3 : Hid (Fr No V0 v3) := Lib.hid (D2.out.trans' g3.out (fun _ _ e => e))
        refine hK.out _ _ (HS.out _ (D3.out.weak (fun _ _ e => e.elim))) (fun hHeld => ?_)
        clear hK e3
        refine any_take 14 (.agg #[.string ⟨#[97]⟩, .int .i64 0, .slice (some ⟨V0.drew.heap.size, 0, none⟩) 3 3, .slice (some ⟨v2.heap.size, 0, none⟩) 3 3, .bool false]) (i := 5) rfl rfl (by kernel_rfl) (by kernel_rfl) (by kernel_rfl) (fun _ _ _ h => h) (by rfl) (by intro w hSw; kernel_rfl) (by assumption) ?_
        simp only [Act.put, List.setIfInBounds_toArray, List.set_cons_zero, List.set_cons_succ]
        refine wpAnyH_ready (rs := [6]) (by kernel_rfl) (by simp) ?_
        refine AllReadyH.cons rfl (fun K' hK => ?_) AllReadyH.nil
        refine oneH_val (v := (.slice (some ⟨v3.heap.size, 0, none⟩) 1 1)) (w' := v3.alloc (.cells (cA12 (V0.drew.heap.size) (v2.heap.size)) 35)) 15 rfl (by rfl) (by kernel_rfl) ?_
        simp only [Act.put, List.setIfInBounds_toArray, List.set_cons_zero, List.set_cons_succ]
        obtain ⟨v4, e4⟩ : ∃ V, Hid (V = v3.alloc (.cells (cA12 (V0.drew.heap.size) (v2.heap.size)) 35)) := ⟨_, Lib.hid rfl⟩
        rw [← e4.out]
        have g4 : Hid (Fr No v3 v4) := Lib.hid (by rw [e4.out]; exact (Fr.refl _ _).alloc _)
        have q4 : Hid (Bk v4 v3.heap.size 35 (cA12 (V0.drew.heap.size) (v2.heap.size))) := Lib.hid (by rw [e4.out]; exact Bk.made _ _ _)
        have n4 : Hid (v4.heap.size = v3.heap.size + 1) := Lib.hid (by rw [e4.out]; simp)
        have D4 : Hid (Fr No V0 v4) := Lib.hid (D3.out.trans' g4.out (fun _ _ e => e))
        refine hK.out _ _ (HS.out _ (D4.out.weak (fun _ _ e => e.elim))) (fun hHeld => ?_)
        clear hK e4
        refine any_take 16 (.agg (brA (.slice (some ⟨v3.heap.size, 0, none⟩) 1 1) fun _ => 0)) (i := 7) rfl rfl (by kernel_rfl) (by kernel_rfl) (by kernel_rfl) (fun _ _ _ h => h) (by rfl) (by intro w hSw; kernel_rfl) (by assumption) ?_
        simp only [Act.put, List.setIfInBounds_toArray, List.set_cons_zero, List.set_cons_succ]
        have b4 := q2.out.fr (((Fr.refl No v2).trans' g3.out (fun _ _ e => e)).trans' g4.out (fun _ _ e => e)) (fun e => e)
        have hsz : Hid (v1.heap.size = w.heap.size + 3 ∧ v2.heap.size = w.heap.size + 4 ∧ v3.heap.size = w.heap.size + 5 ∧ V0.drew.heap.size = w.heap.size + 2) := Lib.hid (by have := n0.out; have := m0.out; have := n1.out; have := n2.out; have := n3.out; omega)
        have st9 := st_cat (v' := .slice (some ⟨v3.heap.size, 0, none⟩) 1 1) (b' := fun _ => 0) rfl rfl rfl b4
        have x1 : Fr (Only (v1.heap.size)) v4 (v4.setRow (v1.heap.size) (brA (.slice (some ⟨v3.heap.size, 0, none⟩) 1 1) fun _ => 0)) := fr_row12 (Fr.refl (Only (v1.heap.size)) v4) (.inl rfl) _
        have HFin : Hid (Fr No w (v4.setRow (v1.heap.size) (brA (.slice (some ⟨v3.heap.size, 0, none⟩) 1 1) fun _ => 0))) := Lib.hid ((G0.out.trans' D4.out (fun _ _ e => e)).trans' x1 (fun i hi e => by have e : i = v1.heap.size := e; have := hsz.out; omega))
        have HEx : Hid (Ex14 (v4.setRow (v1.heap.size) (brA (.slice (some ⟨v3.heap.size, 0, none⟩) 1 1) fun _ => 0)) w.heap.size (v3.heap.size) (V0.drew.heap.size) (v2.heap.size) (v1.heap.size)) := Lib.hid ⟨(bI.out.fr D4.out (fun e => e)).fr x1 (fun e => by have e : w.heap.size = v1.heap.size := e; have := hsz.out; omega), (q1.out.fr ((((Fr.refl No v1).trans' g2.out (fun _ _ e => e)).trans' g3.out (fun _ _ e => e)).trans' g4.out (fun _ _ e => e)) (fun e => e)).fr x1 (fun e => by have e : V0.drew.heap.size = v1.heap.size := e; have := hsz.out; omega), (q3.out.fr ((Fr.refl No v3).trans' g4.out (fun _ _ e => e)) (fun e => e)).fr x1 (fun e => by have e : v2.heap.size = v1.heap.size := e; have := hsz.out; omega), (q4.out.fr (Fr.refl No v4) (fun e => e)).fr x1 (fun e => by have e : v3.heap.size = v1.heap.size := e; have := hsz.out; omega), bk_row12 b4 _⟩
        have s9 := HS.out (v4.setRow (v1.heap.size) (brA (.slice (some ⟨v3.heap.size, 0, none⟩) 1 1) fun _ => 0)) ((D4.out.weak (fun _ _ e => e.elim)).trans' x1 (fun i _ e => by have e : i = v1.heap.size := e; have := hsz.out; have := n0.out; omega))
        have hle : w.heap.size ≤ v1.heap.size := by have := hsz.out; omega
        refine any_store12 (i := 9) (by kernel_rfl) rfl rfl (by rfl) (exec_st rfl rfl st9) s9 ?_
        refine wpAnyH_done (by kernel_rfl) ?_ _
        clear hHeld b4 st9 x1 s9
        go_wp2
        go_meet
        exact ⟨v1.heap.size, v3.heap.size, V0.drew.heap.size, v2.heap.size, rfl, hle, HFin, HEx⟩
    · refine oneH_val (v := (.slice (some ⟨V0.drew.heap.size, 0, none⟩) 3 3)) (w' := V0.drew.alloc (.cells zA12 54)) 13 rfl (by rfl) (by kernel_rfl) ?_
      simp only [Act.put, List.setIfInBounds_toArray, List.set_cons_zero, List.set_cons_succ]
      obtain ⟨v1, e1⟩ : ∃ V, Hid (V = V0.drew.alloc (.cells zA12 54)) := ⟨_, Lib.hid rfl⟩
      rw [← e1.out]
      have g1 : Hid (Fr No V0.drew v1) := Lib.hid (by rw [e1.out]; exact (Fr.refl _ _).alloc _)
      have q1 : Hid (Bk v1 V0.drew.heap.size 54 zA12) := Lib.hid (by rw [e1.out]; exact Bk.made _ _ _)
      have n1 : Hid (v1.heap.size = V0.drew.heap.size + 1) := Lib.hid (by rw [e1.out]; simp)
      have D1 : Hid (Fr No V0 v1) := Lib.hid (D0.out.trans' g1.out (fun _ _ e => e))
      refine hK.out _ _ (HS.out _ (D1.out.weak (fun _ _ e => e.elim))) (fun hHeld => ?_)
      clear hK e1
      refine wpAnyH_ready (rs := [3, 8]) (by kernel_rfl) (by simp) ?_
      refine AllReadyH.cons rfl (fun K' hK => ?_) (AllReadyH.cons rfl (fun K' hK => ?_) AllReadyH.nil)
      · refine oneH_val (v := (.slice (some ⟨v1.heap.size, 0, none⟩) 3 3)) (w' := v1.alloc (.cells (sA12 w.heap.size) 54)) 12 rfl (by rfl) (by kernel_rfl) ?_
        simp only [Act.put, List.setIfInBounds_toArray, List.set_cons_zero, List.set_cons_succ]
        obtain ⟨v2, e2⟩ : ∃ V, Hid (V = v1.alloc (.cells (sA12 w.heap.size) 54)) := ⟨_, Lib.hid rfl⟩
        rw [← e2.out]
        have g2 : Hid (Fr No v1 v2) := Lib.hid (by rw [e2.out]; exact (Fr.refl _ _).alloc _)
        have q2 : Hid (Bk v2 v1.heap.size 54 (sA12 w.heap.size)) := Lib.hid (by rw [e2.out]; exact Bk.made _ _ _)
        have n2 : Hid (v2.heap.size = v1.heap.size + 1) := Lib.hid (by rw [e2.out]; simp)
        have D2 : Hid (Fr No V0 v2) := Lib.hid (D1.out.trans' g2.out (fun _ _ e => e))
        refine hK.out _ _ (HS.out _ (D2.out.weak (fun _ _ e => e.elim))) (fun hHeld => ?_)
        clear hK e2
        refine any_take 14 (.agg #[.string ⟨#[97]⟩, .int .i64 0, .slice (some ⟨v1.heap.size, 0, none⟩) 3 3, .slice (some ⟨V0.drew.heap.size, 0, none⟩) 3 3, .bool false]) (i := 5) rfl rfl (by kernel_rfl) (by kernel_rfl) (by kernel_rfl) (fun _ _ _ h => h) (by rfl) (by intro w hSw; kernel_rfl) (by assumption) ?_
        simp only [Act.put, List.setIfInBounds_toArray, List.set_cons_zero, List.set_cons_succ]
        refine wpAnyH_ready (rs := [6, 8]) (by kernel_rfl) (by simp) ?_
        refine AllReadyH.cons rfl (fun K' hK => ?_) (AllReadyH.cons rfl (fun K' hK => ?_) AllReadyH.nil)
        · refine oneH_val (v := (.slice (some ⟨v2.heap.size, 0, none⟩) 1 1)) (w' := v2.alloc (.cells (cA12 (v1.heap.size) (V0.drew.heap.size)) 35)) 15 rfl (by rfl) (by kernel_rfl) ?_
          simp only [Act.put, List.setIfInBounds_toArray, List.set_cons_zero, List.set_cons_succ]
          obtain ⟨v3, e3⟩ : ∃ V, Hid (V = v2.alloc (.cells (cA12 (v1.heap.size) (V0.drew.heap.size)) 35)) := ⟨_, Lib.hid rfl⟩
          rw [← e3.out]
          have g3 : Hid (Fr No v2 v3) := Lib.hid (by rw [e3.out]; exact (Fr.refl _ _).alloc _)
          have q3 : Hid (Bk v3 v2.heap.size 35 (cA12 (v1.heap.size) (V0.drew.heap.size))) := Lib.hid (by rw [e3.out]; exact Bk.made _ _ _)
          have n3 : Hid (v3.heap.size = v2.heap.size + 1) := Lib.hid (by rw [e3.out]; simp)
          have D3 : Hid (Fr No V0 v3) := Lib.hid (D2.out.trans' g3.out (fun _ _ e => e))
          refine hK.out _ _ (HS.out _ (D3.out.weak (fun _ _ e => e.elim))) (fun hHeld => ?_)
          clear hK e3
          refine any_take 16 (.agg (brA (.slice (some ⟨v2.heap.size, 0, none⟩) 1 1) fun _ => 0)) (i := 7) rfl rfl (by kernel_rfl) (by kernel_rfl) (by kernel_rfl) (fun _ _ _ h => h) (by rfl) (by intro w hSw; kernel_rfl) (by assumption) ?_
          simp only [Act.put, List.setIfInBounds_toArray, List.set_cons_zero, List.set_cons_succ]
          refine wpAnyH_ready (rs := [8]) (by kernel_rfl) (by simp) ?_
          refine AllReadyH.cons rfl (fun K' hK => ?_) AllReadyH.nil
          refine oneH_val (v := (.pointer (some ⟨v3.heap.size, 0, none⟩))) (w' := v3.alloc (.cells zB14 26)) 2 rfl (by rfl) (by kernel_rfl) ?_
          simp only [Act.put, List.setIfInBounds_toArray, List.set_cons_zero, List.set_cons_succ]
          obtain ⟨v4, e4⟩ : ∃ V, Hid (V = v3.alloc (.cells zB14 26)) := ⟨_, Lib.hid rfl⟩
          rw [← e4.out]
          have g4 : Hid (Fr No v3 v4) := Lib.hid (by rw [e4.out]; exact (Fr.refl _ _).alloc _)
          have q4 : Hid (Bk v4 v3.heap.size 26 zB14) := Lib.hid (by rw [e4.out]; exact Bk.made _ _ _)
          have n4 : Hid (v4.heap.size = v3.heap.size + 1) := Lib.hid (by rw [e4.out]; simp)
          have D4 : Hid (Fr No V0 v4) := Lib.hid (D3.out.trans' g4.out (fun _ _ e => e))
          refine hK.out _ _ (HS.out _ (D4.out.weak (fun _ _ e => e.elim))) (fun hHeld => ?_)
          clear hK e4
          have b4 := q4.out.fr (Fr.refl No v4) (fun e => e)
          have hsz : Hid (v1.heap.size = w.heap.size + 3 ∧ v2.heap.size = w.heap.size + 4 ∧ v3.heap.size = w.heap.size + 5 ∧ V0.drew.heap.size = w.heap.size + 2) := Lib.hid (by have := n0.out; have := m0.out; have := n1.out; have := n2.out; have := n3.out; omega)
          have st9 := st_cat (v' := .slice (some ⟨v2.heap.size, 0, none⟩) 1 1) (b' := fun _ => 0) rfl rfl rfl b4
          have x1 : Fr (Only (v3.heap.size)) v4 (v4.setRow (v3.heap.size) (brA (.slice (some ⟨v2.heap.size, 0, none⟩) 1 1) fun _ => 0)) := fr_row12 (Fr.refl (Only (v3.heap.size)) v4) (.inl rfl) _
          have HFin : Hid (Fr No w (v4.setRow (v3.heap.size) (brA (.slice (some ⟨v2.heap.size, 0, none⟩) 1 1) fun _ => 0))) := Lib.hid ((G0.out.trans' D4.out (fun _ _ e => e)).trans' x1 (fun i hi e => by have e : i = v3.heap.size := e; have := hsz.out; omega))
          have HEx : Hid (Ex14 (v4.setRow (v3.heap.size) (brA (.slice (some ⟨v2.heap.size, 0, none⟩) 1 1) fun _ => 0)) w.heap.size (v2.heap.size) (v1.heap.size) (V0.drew.heap.size) (v3.heap.size)) := Lib.hid ⟨(bI.out.fr D4.out (fun e => e)).fr x1 (fun e => by have e : w.heap.size = v3.heap.size := e; have := hsz.out; omega), (q2.out.fr (((Fr.refl No v2).trans' g3.out (fun _ _ e => e)).trans' g4.out (fun _ _ e => e)) (fun e => e)).fr x1 (fun e => by have e : v1.heap.size = v3.heap.size := e; have := hsz.out; omega), (q1.out.fr ((((Fr.refl No v1).trans' g2.out (fun _ _ e => e)).trans' g3.out (fun _ _ e => e)).trans' g4.out (fun _ _ e => e)) (fun e => e)).fr x1 (fun e => by have e : V0.drew.heap.size = v3.heap.size := e; have := hsz.out; omega), (q3.out.fr ((Fr.refl No v3).trans' g4.out (fun _ _ e => e)) (fun e => e)).fr x1 (fun e => by have e : v2.heap.size = v3.heap.size := e; have := hsz.out; omega), bk_row12 b4 _⟩
          have s9 := HS.out (v4.setRow (v3.heap.size) (brA (.slice (some ⟨v2.heap.size, 0, none⟩) 1 1) fun _ => 0)) ((D4.out.weak (fun _ _ e => e.elim)).trans' x1 (fun i _ e => by have e : i = v3.heap.size := e; have := hsz.out; have := n0.out; omega))
          have hle : w.heap.size ≤ v3.heap.size := by have := hsz.out; omega
          refine any_store12 (i := 9) (by kernel_rfl) rfl rfl (by rfl) (exec_st rfl rfl st9) s9 ?_
          refine wpAnyH_done (by kernel_rfl) ?_ _
          clear hHeld b4 st9 x1 s9
          go_wp2
          go_meet
          exact ⟨v3.heap.size, v2.heap.size, v1.heap.size, V0.drew.heap.size, rfl, hle, HFin, HEx⟩
        · refine oneH_val (v := (.pointer (some ⟨v2.heap.size, 0, none⟩))) (w' := v2.alloc (.cells zB14 26)) 2 rfl (by rfl) (by kernel_rfl) ?_
          simp only [Act.put, List.setIfInBounds_toArray, List.set_cons_zero, List.set_cons_succ]
          obtain ⟨v3, e3⟩ : ∃ V, Hid (V = v2.alloc (.cells zB14 26)) := ⟨_, Lib.hid rfl⟩
          rw [← e3.out]
          have g3 : Hid (Fr No v2 v3) := Lib.hid (by rw [e3.out]; exact (Fr.refl _ _).alloc _)
          have q3 : Hid (Bk v3 v2.heap.size 26 zB14) := Lib.hid (by rw [e3.out]; exact Bk.made _ _ _)
          have n3 : Hid (v3.heap.size = v2.heap.size + 1) := Lib.hid (by rw [e3.out]; simp)
          have D3 : Hid (Fr No V0 v3) := Lib.hid (D2.out.trans' g3.out (fun _ _ e => e))
          refine hK.out _ _ (HS.out _ (D3.out.weak (fun _ _ e => e.elim))) (fun hHeld => ?_)
          clear hK e3
          refine wpAnyH_ready (rs := [6]) (by kernel_rfl) (by simp) ?_
          refine AllReadyH.cons rfl (fun K' hK => ?_) AllReadyH.nil
          refine oneH_val (v := (.slice (some ⟨v3.heap.size, 0, none⟩) 1 1)) (w' := v3.alloc (.cells (cA12 (v1.heap.size) (V0.drew.heap.size)) 35)) 15 rfl (by rfl) (by kernel_rfl) ?_
          simp only [Act.put, List.setIfInBounds_toArray, List.set_cons_zero, List.set_cons_succ]
          obtain ⟨v4, e4⟩ : ∃ V, Hid (V = v3.alloc (.cells (cA12 (v1.heap.size) (V0.drew.heap.size)) 35)) := ⟨_, Lib.hid rfl⟩
          rw [← e4.out]
          have g4 : Hid (Fr No v3 v4) := Lib.hid (by rw [e4.out]; exact (Fr.refl _ _).alloc _)
          have q4 : Hid (Bk v4 v3.heap.size 35 (cA12 (v1.heap.size) (V0.drew.heap.size))) := Lib.hid (by rw [e4.out]; exact Bk.made _ _ _)
          have n4 : Hid (v4.heap.size = v3.heap.size + 1) := Lib.hid (by rw [e4.out]; simp)
          have D4 : Hid (Fr No V0 v4) := Lib.hid (D3.out.trans' g4.out (fun _ _ e => e))
          refine hK.out _ _ (HS.out _ (D4.out.weak (fun _ _ e => e.elim))) (fun hHeld => ?_)
          clear hK e4
          refine any_take 16 (.agg (brA (.slice (some ⟨v3.heap.size, 0, none⟩) 1 1) fun _ => 0)) (i := 7) rfl rfl (by kernel_rfl) (by kernel_rfl) (by kernel_rfl) (fun _ _ _ h => h) (by rfl) (by intro w hSw; kernel_rfl) (by assumption) ?_
          simp only [Act.put, List.setIfInBounds_toArray, List.set_cons_zero, List.set_cons_succ]
          have b4 := q3.out.fr ((Fr.refl No v3).trans' g4.out (fun _ _ e => e)) (fun e => e)
          have hsz : Hid (v1.heap.size = w.heap.size + 3 ∧ v2.heap.size = w.heap.size + 4 ∧ v3.heap.size = w.heap.size + 5 ∧ V0.drew.heap.size = w.heap.size + 2) := Lib.hid (by have := n0.out; have := m0.out; have := n1.out; have := n2.out; have := n3.out; omega)
          have st9 := st_cat (v' := .slice (some ⟨v3.heap.size, 0, none⟩) 1 1) (b' := fun _ => 0) rfl rfl rfl b4
          have x1 : Fr (Only (v2.heap.size)) v4 (v4.setRow (v2.heap.size) (brA (.slice (some ⟨v3.heap.size, 0, none⟩) 1 1) fun _ => 0)) := fr_row12 (Fr.refl (Only (v2.heap.size)) v4) (.inl rfl) _
          have HFin : Hid (Fr No w (v4.setRow (v2.heap.size) (brA (.slice (some ⟨v3.heap.size, 0, none⟩) 1 1) fun _ => 0))) := Lib.hid ((G0.out.trans' D4.out (fun _ _ e => e)).trans' x1 (fun i hi e => by have e : i = v2.heap.size := e; have := hsz.out; omega))
          have HEx : Hid (Ex14 (v4.setRow (v2.heap.size) (brA (.slice (some ⟨v3.heap.size, 0, none⟩) 1 1) fun _ => 0)) w.heap.size (v3.heap.size) (v1.heap.size) (V0.drew.heap.size) (v2.heap.size)) := Lib.hid ⟨(bI.out.fr D4.out (fun e => e)).fr x1 (fun e => by have e : w.heap.size = v2.heap.size := e; have := hsz.out; omega), (q2.out.fr (((Fr.refl No v2).trans' g3.out (fun _ _ e => e)).trans' g4.out (fun _ _ e => e)) (fun e => e)).fr x1 (fun e => by have e : v1.heap.size = v2.heap.size := e; have := hsz.out; omega), (q1.out.fr ((((Fr.refl No v1).trans' g2.out (fun _ _ e => e)).trans' g3.out (fun _ _ e => e)).trans' g4.out (fun _ _ e => e)) (fun e => e)).fr x1 (fun e => by have e : V0.drew.heap.size = v2.heap.size := e; have := hsz.out; omega), (q4.out.fr (Fr.refl No v4) (fun e => e)).fr x1 (fun e => by have e : v3.heap.size = v2.heap.size := e; have := hsz.out; omega), bk_row12 b4 _⟩
          have s9 := HS.out (v4.setRow (v2.heap.size) (brA (.slice (some ⟨v3.heap.size, 0, none⟩) 1 1) fun _ => 0)) ((D4.out.weak (fun _ _ e => e.elim)).trans' x1 (fun i _ e => by have e : i = v2.heap.size := e; have := hsz.out; have := n0.out; omega))
          have hle : w.heap.size ≤ v2.heap.size := by have := hsz.out; omega
          refine any_store12 (i := 9) (by kernel_rfl) rfl rfl (by rfl) (exec_st rfl rfl st9) s9 ?_
          refine wpAnyH_done (by kernel_rfl) ?_ _
          clear hHeld b4 st9 x1 s9
          go_wp2
          go_meet
          exact ⟨v2.heap.size, v3.heap.size, v1.heap.size, V0.drew.heap.size, rfl, hle, HFin, HEx⟩
      · refine oneH_val (v := (.pointer (some ⟨v1.heap.size, 0, none⟩))) (w' := v1.alloc (.cells zB14 26)) 2 rfl (by rfl) (by kernel_rfl) ?_
        simp only [Act.put, List.setIfInBounds_toArray, List.set_cons_zero, List.set_cons_succ]
        obtain ⟨v2, e2⟩ : ∃ V, Hid (V = v1.alloc (.cells zB14 26)) := ⟨_, Lib.hid rfl⟩
        rw [← e2.out]
        have g2 : Hid (Fr No v1 v2) := Lib.hid (by rw [e2.out]; exact (Fr.refl _ _).alloc _)
        have q2 : Hid (Bk v2 v1.heap.size 26 zB14) := Lib.hid (by rw [e2.out]; exact Bk.made _ _ _)
        have n2 : Hid (v2.heap.size = v1.heap.size + 1) := Lib.hid (by rw [e2.out]; simp)
        have D2 : Hid (Fr No V0 v2) := Lib.hid (D1.out.trans' g2.out (fun _ _ e => e))
        refine hK.out _ _ (HS.out _ (D2.out.weak (fun _ _ e => e.elim))) (fun hHeld => ?_)
        clear hK e2
        refine wpAnyH_ready (rs := [3]) (by kernel_rfl) (by simp) ?_
        refine AllReadyH.cons rfl (fun K' hK => ?_) AllReadyH.nil
        refine oneH_val (v := (.slice (some ⟨v2.heap.size, 0, none⟩) 3 3)) (w' := v2.alloc (.cells (sA12 w.heap.size) 54)) 12 rfl (by rfl) (by kernel_rfl) ?_
        simp only [Act.put, List.setIfInBounds_toArray, List.set_cons_zero, List.set_cons_succ]
        obtain ⟨v3, e3⟩ : ∃ V, Hid (V = v2.alloc (.cells (sA12 w.heap.size) 54)) := ⟨_, Lib.hid rfl⟩
        rw [← e3.out]
        have g3 : Hid (Fr No v2 v3) := Lib.hid (by rw [e3.out]; exact (Fr.refl _ _).alloc _)
        have q3 : Hid (Bk v3 v2.heap.size 54 (sA12 w.heap.size)) := Lib.hid (by rw [e3.out]; exact Bk.made _ _ _)
        have n3 : Hid (v3.heap.size = v2.heap.size + 1) := Lib.hid (by rw [e3.out]; simp)
        have D3 : Hid (Fr No V0 v3) := Lib.hid (D2.out.trans' g3.out (fun _ _ e => e))
        refine hK.out _ _ (HS.out _ (D3.out.weak (fun _ _ e => e.elim))) (fun hHeld => ?_)
        clear hK e3
        refine any_take 14 (.agg #[.string ⟨#[97]⟩, .int .i64 0, .slice (some ⟨v2.heap.size, 0, none⟩) 3 3, .slice (some ⟨V0.drew.heap.size, 0, none⟩) 3 3, .bool false]) (i := 5) rfl rfl (by kernel_rfl) (by kernel_rfl) (by kernel_rfl) (fun _ _ _ h => h) (by rfl) (by intro w hSw; kernel_rfl) (by assumption) ?_
        simp only [Act.put, List.setIfInBounds_toArray, List.set_cons_zero, List.set_cons_succ]
        refine wpAnyH_ready (rs := [6]) (by kernel_rfl) (by simp) ?_
        refine AllReadyH.cons rfl (fun K' hK => ?_) AllReadyH.nil
        refine oneH_val (v := (.slice (some ⟨v3.heap.size, 0, none⟩) 1 1)) (w' := v3.alloc (.cells (cA12 (v2.heap.size) (V0.drew.heap.size)) 35)) 15 rfl (by rfl) (by kernel_rfl) ?_
        simp only [Act.put, List.setIfInBounds_toArray, List.set_cons_zero, List.set_cons_succ]
        obtain ⟨v4, e4⟩ : ∃ V, Hid (V = v3.alloc (.cells (cA12 (v2.heap.size) (V0.drew.heap.size)) 35)) := ⟨_, Lib.hid rfl⟩
        rw [← e4.out]
        have g4 : Hid (Fr No v3 v4) := Lib.hid (by rw [e4.out]; exact (Fr.refl _ _).alloc _)
        have q4 : Hid (Bk v4 v3.heap.size 35 (cA12 (v2.heap.size) (V0.drew.heap.size))) := Lib.hid (by rw [e4.out]; exact Bk.made _ _ _)
        have n4 : Hid (v4.heap.size = v3.heap.size + 1) := Lib.hid (by rw [e4.out]; simp)
        have D4 : Hid (Fr No V0 v4) := Lib.hid (D3.out.trans' g4.out (fun _ _ e => e))
        refine hK.out _ _ (HS.out _ (D4.out.weak (fun _ _ e => e.elim))) (fun hHeld => ?_)
        clear hK e4
        refine any_take 16 (.agg (brA (.slice (some ⟨v3.heap.size, 0, none⟩) 1 1) fun _ => 0)) (i := 7) rfl rfl (by kernel_rfl) (by kernel_rfl) (by kernel_rfl) (fun _ _ _ h => h) (by rfl) (by intro w hSw; kernel_rfl) (by assumption) ?_
        simp only [Act.put, List.setIfInBounds_toArray, List.set_cons_zero, List.set_cons_succ]
        have b4 := q2.out.fr (((Fr.refl No v2).trans' g3.out (fun _ _ e => e)).trans' g4.out (fun _ _ e => e)) (fun e => e)
        have hsz : Hid (v1.heap.size = w.heap.size + 3 ∧ v2.heap.size = w.heap.size + 4 ∧ v3.heap.size = w.heap.size + 5 ∧ V0.drew.heap.size = w.heap.size + 2) := Lib.hid (by have := n0.out; have := m0.out; have := n1.out; have := n2.out; have := n3.out; omega)
        have st9 := st_cat (v' := .slice (some ⟨v3.heap.size, 0, none⟩) 1 1) (b' := fun _ => 0) rfl rfl rfl b4
        have x1 : Fr (Only (v1.heap.size)) v4 (v4.setRow (v1.heap.size) (brA (.slice (some ⟨v3.heap.size, 0, none⟩) 1 1) fun _ => 0)) := fr_row12 (Fr.refl (Only (v1.heap.size)) v4) (.inl rfl) _
        have HFin : Hid (Fr No w (v4.setRow (v1.heap.size) (brA (.slice (some ⟨v3.heap.size, 0, none⟩) 1 1) fun _ => 0))) := Lib.hid ((G0.out.trans' D4.out (fun _ _ e => e)).trans' x1 (fun i hi e => by have e : i = v1.heap.size := e; have := hsz.out; omega))
        have HEx : Hid (Ex14 (v4.setRow (v1.heap.size) (brA (.slice (some ⟨v3.heap.size, 0, none⟩) 1 1) fun _ => 0)) w.heap.size (v3.heap.size) (v2.heap.size) (V0.drew.heap.size) (v1.heap.size)) := Lib.hid ⟨(bI.out.fr D4.out (fun e => e)).fr x1 (fun e => by have e : w.heap.size = v1.heap.size := e; have := hsz.out; omega), (q3.out.fr ((Fr.refl No v3).trans' g4.out (fun _ _ e => e)) (fun e => e)).fr x1 (fun e => by have e : v2.heap.size = v1.heap.size := e; have := hsz.out; omega), (q1.out.fr ((((Fr.refl No v1).trans' g2.out (fun _ _ e => e)).trans' g3.out (fun _ _ e => e)).trans' g4.out (fun _ _ e => e)) (fun e => e)).fr x1 (fun e => by have e : V0.drew.heap.size = v1.heap.size := e; have := hsz.out; omega), (q4.out.fr (Fr.refl No v4) (fun e => e)).fr x1 (fun e => by have e : v3.heap.size = v1.heap.size := e; have := hsz.out; omega), bk_row12 b4 _⟩
        have s9 := HS.out (v4.setRow (v1.heap.size) (brA (.slice (some ⟨v3.heap.size, 0, none⟩) 1 1) fun _ => 0)) ((D4.out.weak (fun _ _ e => e.elim)).trans' x1 (fun i _ e => by have e : i = v1.heap.size := e; have := hsz.out; have := n0.out; omega))
        have hle : w.heap.size ≤ v1.heap.size := by have := hsz.out; omega
        refine any_store12 (i := 9) (by kernel_rfl) rfl rfl (by rfl) (exec_st rfl rfl st9) s9 ?_
        refine wpAnyH_done (by kernel_rfl) ?_ _
        clear hHeld b4 st9 x1 s9
        go_wp2
        go_meet
        exact ⟨v1.heap.size, v3.heap.size, v2.heap.size, V0.drew.heap.size, rfl, hle, HFin, HEx⟩
    · refine oneH_val (v := (.pointer (some ⟨V0.drew.heap.size, 0, none⟩))) (w' := V0.drew.alloc (.cells zB14 26)) 2 rfl (by rfl) (by kernel_rfl) ?_
      simp only [Act.put, List.setIfInBounds_toArray, List.set_cons_zero, List.set_cons_succ]
      obtain ⟨v1, e1⟩ : ∃ V, Hid (V = V0.drew.alloc (.cells zB14 26)) := ⟨_, Lib.hid rfl⟩
      rw [← e1.out]
      have g1 : Hid (Fr No V0.drew v1) := Lib.hid (by rw [e1.out]; exact (Fr.refl _ _).alloc _)
      have q1 : Hid (Bk v1 V0.drew.heap.size 26 zB14) := Lib.hid (by rw [e1.out]; exact Bk.made _ _ _)
      have n1 : Hid (v1.heap.size = V0.drew.heap.size + 1) := Lib.hid (by rw [e1.out]; simp)
      have D1 : Hid (Fr No V0 v1) := Lib.hid (D0.out.trans' g1.out (fun _ _ e => e))
      refine hK.out _ _ (HS.out _ (D1.out.weak (fun _ _ e => e.elim))) (fun hHeld => ?_)
      clear hK e1
      refine wpAnyH_ready (rs := [3, 4]) (by kernel_rfl) (by simp) ?_
      refine AllReadyH.cons rfl (fun K' hK => ?_) (AllReadyH.cons rfl (fun K' hK => ?_) AllReadyH.nil)
      · refine oneH_val (v := (.slice (some ⟨v1.heap.size, 0, none⟩) 3 3)) (w' := v1.alloc (.cells (sA12 w.heap.size) 54)) 12 rfl (by rfl) (by kernel_rfl) ?_
        simp only [Act.put, List.setIfInBounds_toArray, List.set_cons_zero, List.set_cons_succ]
        obtain ⟨v2, e2⟩ : ∃ V, Hid (V = v1.alloc (.cells (sA12 w.heap.size) 54)) := ⟨_, Lib.hid rfl⟩
        rw [← e2.out]
        have g2 : Hid (Fr No v1 v2) := Lib.hid (by rw [e2.out]; exact (Fr.refl _ _).alloc _)
        have q2 : Hid (Bk v2 v1.heap.size 54 (sA12 w.heap.size)) := Lib.hid (by rw [e2.out]; exact Bk.made _ _ _)
        have n2 : Hid (v2.heap.size = v1.heap.size + 1) := Lib.hid (by rw [e2.out]; simp)
        have D2 : Hid (Fr No V0 v2) := Lib.hid (D1.out.trans' g2.out (fun _ _ e => e))
        refine hK.out _ _ (HS.out _ (D2.out.weak (fun _ _ e => e.elim))) (fun hHeld => ?_)
        clear hK e2
        refine wpAnyH_ready (rs := [4]) (by kernel_rfl) (by simp) ?_
        refine AllReadyH.cons rfl (fun K' hK => ?_) AllReadyH.nil
        refine oneH_val (v := (.slice (some ⟨v2.heap.size, 0, none⟩) 3 3)) (w' := v2.alloc (.cells zA12 54)) 13 rfl (by rfl) (by kernel_rfl) ?_
        simp only [Act.put, List.setIfInBounds_toArray, List.set_cons_zero, List.set_cons_succ]
        obtain ⟨v3, e3⟩ : ∃ V, Hid (V = v2.alloc (.cells zA12 54)) := ⟨_, Lib.hid rfl⟩
        rw [← e3.out]
        have g3 : Hid (Fr No v2 v3) := Lib.hid (by rw [e3.out]; exact (Fr.refl _ _).alloc _)
        have q3 : Hid (Bk v3 v2.heap.size 54 zA12) := Lib.hid (by rw [e3.out]; exact Bk.made _ _ _)
        have n3 : Hid (v3.heap.size = v2.heap.size + 1) := Lib.hid (by rw [e3.out]; simp)
        have D3 : Hid (Fr No V0 v3) := Lib.hid (D2.out.trans' g3.out (fun _ _ e => e))
        refine hK.out _ _ (HS.out _ (D3.out.weak (fun _ _ e => e.elim))) (fun hHeld => ?_)
        clear hK e3
        refine any_take 14 (.agg #[.string ⟨#[97]⟩, .int .i64 0, .slice (some ⟨v1.heap.size, 0, none⟩) 3 3, .slice (some ⟨v2.heap.size, 0, none⟩) 3 3, .bool false]) (i := 5) rfl rfl (by kernel_rfl) (by kernel_rfl) (by kernel_rfl) (fun _ _ _ h => h) (by rfl) (by intro w hSw; kernel_rfl) (by assumption) ?_
        simp only [Act.put, List.setIfInBounds_toArray, List.set_cons_zero, List.set_cons_succ]
        refine wpAnyH_ready (rs := [6]) (by kernel_rfl) (by simp) ?_
        refine AllReadyH.cons rfl (fun K' hK => ?_) AllReadyH.nil
        refine oneH_val (v := (.slice (some ⟨v3.heap.size, 0, none⟩) 1 1)) (w' := v3.alloc (.cells (cA12 (v1.heap.size) (v2.heap.size)) 35)) 15 rfl (by rfl) (by kernel_rfl) ?_
        simp only [Act.put, List.setIfInBounds_toArray, List.set_cons_zero, List.set_cons_succ]
        obtain ⟨v4, e4⟩ : ∃ V, Hid (V = v3.alloc (.cells (cA12 (v1.heap.size) (v2.heap.size)) 35)) := ⟨_, Lib.hid rfl⟩
        rw [← e4.out]
        have g4 : Hid (Fr No v3 v4) := Lib.hid (by rw [e4.out]; exact (Fr.refl _ _).alloc _)
        have q4 : Hid (Bk v4 v3.heap.size 35 (cA12 (v1.heap.size) (v2.heap.size))) := Lib.hid (by rw [e4.out]; exact Bk.made _ _ _)
        have n4 : Hid (v4.heap.size = v3.heap.size + 1) := Lib.hid (by rw [e4.out]; simp)
        have D4 : Hid (Fr No V0 v4) := Lib.hid (D3.out.trans' g4.out (fun _ _ e => e))
        refine hK.out _ _ (HS.out _ (D4.out.weak (fun _ _ e => e.elim))) (fun hHeld => ?_)
        clear hK e4
        refine any_take 16 (.agg (brA (.slice (some ⟨v3.heap.size, 0, none⟩) 1 1) fun _ => 0)) (i := 7) rfl rfl (by kernel_rfl) (by kernel_rfl) (by kernel_rfl) (fun _ _ _ h => h) (by rfl) (by intro w hSw; kernel_rfl) (by assumption) ?_
        simp only [Act.put, List.setIfInBounds_toArray, List.set_cons_zero, List.set_cons_succ]
        have b4 := q1.out.fr ((((Fr.refl No v1).trans' g2.out (fun _ _ e => e)).trans' g3.out (fun _ _ e => e)).trans' g4.out (fun _ _ e => e)) (fun e => e)
        have hsz : Hid (v1.heap.size = w.heap.size + 3 ∧ v2.heap.size = w.heap.size + 4 ∧ v3.heap.size = w.heap.size + 5 ∧ V0.drew.heap.size = w.heap.size + 2) := Lib.hid (by have := n0.out; have := m0.out; have := n1.out; have := n2.out; have := n3.out; omega)
        have st9 := st_cat (v' := .slice (some ⟨v3.heap.size, 0, none⟩) 1 1) (b' := fun _ => 0) rfl rfl rfl b4
        have x1 : Fr (Only (V0.drew.heap.size)) v4 (v4.setRow (V0.drew.heap.size) (brA (.slice (some ⟨v3.heap.size, 0, none⟩) 1 1) fun _ => 0)) := fr_row12 (Fr.refl (Only (V0.drew.heap.size)) v4) (.inl rfl) _
        have HFin : Hid (Fr No w (v4.setRow (V0.drew.heap.size) (brA (.slice (some ⟨v3.heap.size, 0, none⟩) 1 1) fun _ => 0))) := Lib.hid ((G0.out.trans' D4.out (fun _ _ e => e)).trans' x1 (fun i hi e => by have e : i = V0.drew.heap.size := e; have := hsz.out; omega))
        have HEx : Hid (Ex14 (v4.setRow (V0.drew.heap.size) (brA (.slice (some ⟨v3.heap.size, 0, none⟩) 1 1) fun _ => 0)) w.heap.size (v3.heap.size) (v1.heap.size) (v2.heap.size) (V0.drew.heap.size)) := Lib.hid ⟨(bI.out.fr D4.out (fun e => e)).fr x1 (fun e => by have e : w.heap.size = V0.drew.heap.size := e; have := hsz.out; omega), (q2.out.fr (((Fr.refl No v2).trans' g3.out (fun _ _ e => e)).trans' g4.out (fun _ _ e => e)) (fun e => e)).fr x1 (fun e => by have e : v1.heap.size = V0.drew.heap.size := e; have := hsz.out; omega), (q3.out.fr ((Fr.refl No v3).trans' g4.out (fun _ _ e => e)) (fun e => e)).fr x1 (fun e => by have e : v2.heap.size = V0.drew.heap.size := e; have := hsz.out; omega), (q4.out.fr (Fr.refl No v4) (fun e => e)).fr x1 (fun e => by have e : v3.heap.size = V0.drew.heap.size := e; have := hsz.out; omega), bk_row12 b4 _⟩
        have s9 := HS.out (v4.setRow (V0.drew.heap.size) (brA (.slice (some ⟨v3.heap.size, 0, none⟩) 1 1) fun _ => 0)) ((D4.out.weak (fun _ _ e => e.elim)).trans' x1 (fun i _ e => by have e : i = V0.drew.heap.size := e; have := hsz.out; have := n0.out; omega))
        have hle : w.heap.size ≤ V0.drew.heap.size := by have := hsz.out; omega
        refine any_store12 (i := 9) (by kernel_rfl) rfl rfl (by rfl) (exec_st rfl rfl st9) s9 ?_
        refine wpAnyH_done (by kernel_rfl) ?_ _
        clear hHeld b4 st9 x1 s9
        go_wp2
        go_meet
        exact ⟨V0.drew.heap.size, v3.heap.size, v1.heap.size, v2.heap.size, rfl, hle, HFin, HEx⟩
      · refine oneH_val (v := (.slice (some ⟨v1.heap.size, 0, none⟩) 3 3)) (w' := v1.alloc (.cells zA12 54)) 13 rfl (by rfl) (by kernel_rfl) ?_
        simp only [Act.put, List.setIfInBounds_toArray, List.set_cons_zero, List.set_cons_succ]
        obtain ⟨v2, e2⟩ : ∃ V, Hid (V = v1.alloc (.cells zA12 54)) := ⟨_, Lib.hid rfl⟩
        rw [← e2.out]
        have g2 : Hid (Fr No v1 v2) := Lib.hid (by rw [e2.out]; exact (Fr.refl _ _).alloc _)
        have q2 : Hid (Bk v2 v1.heap.size 54 zA12) := Lib.hid (by rw [e2.out]; exact Bk.made _ _ _)
        have n2 : Hid (v2.heap.size = v1.heap.size + 1) := Lib.hid (by rw [e2.out]; simp)
        have D2 : Hid (Fr No V0 v2) := Lib.hid (D1.out.trans' g2.out (fun _ _ e => e))
        refine hK.out _ _ (HS.out _ (D2.out.weak (fun _ _ e => e.elim))) (fun hHeld => ?_)
        clear hK e2
        refine wpAnyH_ready (rs := [3]) (by kernel_rfl) (by simp) ?_
        refine AllReadyH.cons rfl (fun K' hK => ?_) AllReadyH.nil
        refine oneH_val (v := (.slice (some ⟨v2.heap.size, 0, none⟩) 3 3)) (w' := v2.alloc (.cells (sA12 w.heap.size) 54)) 12 rfl (by rfl) (by kernel_rfl) ?_
        simp only [Act.put, List.setIfInBounds_toArray, List.set_cons_zero, List.set_cons_succ]
        obtain ⟨v3, e3⟩ : ∃ V, Hid (V = v2.alloc (.cells (sA12 w.heap.size) 54)) := ⟨_, Lib.hid rfl⟩
        rw [← e3.out]
        have g3 : Hid (Fr No v2 v3) := Lib.hid (by rw [e3.out]; exact (Fr.refl _ _).alloc _)
        have q3 : Hid (Bk v3 v2.heap.size 54 (sA12 w.heap.size)) := Lib.hid (by rw [e3.out]; exact Bk.made _ _ _)
        have n3 : Hid (v3.heap.size = v2.heap.size + 1) := Lib.hid (by rw [e3.out]; simp)
        have D3 : Hid (Fr No V0 v3) := Lib.hid (D2.out.trans' g3.out (fun _ _ e => e))
        refine hK.out _ _ (HS.out _ (D3.out.weak (fun _ _ e => e.elim))) (fun hHeld => ?_)
        clear hK e3
        refine any_take 14 (.agg #[.string ⟨#[97]⟩, .int .i64 0, .slice (some ⟨v2.heap.size, 0, none⟩) 3 3, .slice (some ⟨v1.heap.size, 0, none⟩) 3 3, .bool false]) (i := 5) rfl rfl (by kernel_rfl) (by kernel_rfl) (by kernel_rfl) (fun _ _ _ h => h) (by rfl) (by intro w hSw; kernel_rfl) (by assumption) ?_
        simp only [Act.put, List.setIfInBounds_toArray, List.set_cons_zero, List.set_cons_succ]
        refine wpAnyH_ready (rs := [6]) (by kernel_rfl) (by simp) ?_
        refine AllReadyH.cons rfl (fun K' hK => ?_) AllReadyH.nil
        refine oneH_val (v := (.slice (some ⟨v3.heap.size, 0, none⟩) 1 1)) (w' := v3.alloc (.cells (cA12 (v2.heap.size) (v1.heap.size)) 35)) 15 rfl (by rfl) (by kernel_rfl) ?_
        simp only [Act.put, List.setIfInBounds_toArray, List.set_cons_zero, List.set_cons_succ]
        obtain ⟨v4, e4⟩ : ∃ V, Hid (V = v3.alloc (.cells (cA12 (v2.heap.size) (v1.heap.size)) 35)) := ⟨_, Lib.hid rfl⟩
        rw [← e4.out]
        have g4 : Hid (Fr No v3 v4) := Lib.hid (by rw [e4.out]; exact (Fr.refl _ _).alloc _)
        have q4 : Hid (Bk v4 v3.heap.size 35 (cA12 (v2.heap.size) (v1.heap.size))) := Lib.hid (by rw [e4.out]; exact Bk.made _ _ _)
        have n4 : Hid (v4.heap.size = v3.heap.size + 1) := Lib.hid (by rw [e4.out]; simp)
        have D4 : Hid (Fr No V0 v4) := Lib.hid (D3.out.trans' g4.out (fun _ _ e => e))
        refine hK.out _ _ (HS.out _ (D4.out.weak (fun _ _ e => e.elim))) (fun hHeld => ?_)
        clear hK e4
        refine any_take 16 (.agg (brA (.slice (some ⟨v3.heap.size, 0, none⟩) 1 1) fun _ => 0)) (i := 7) rfl rfl (by kernel_rfl) (by kernel_rfl) (by kernel_rfl) (fun _ _ _ h => h) (by rfl) (by intro w hSw; kernel_rfl) (by assumption) ?_
        simp only [Act.put, List.setIfInBounds_toArray, List.set_cons_zero, List.set_cons_succ]
        have b4 := q1.out.fr ((((Fr.refl No v1).trans' g2.out (fun _ _ e => e)).trans' g3.out (fun _ _ e => e)).trans' g4.out (fun _ _ e => e)) (fun e => e)
        have hsz : Hid (v1.heap.size = w.heap.size + 3 ∧ v2.heap.size = w.heap.size + 4 ∧ v3.heap.size = w.heap.size + 5 ∧ V0.drew.heap.size = w.heap.size + 2) := Lib.hid (by have := n0.out; have := m0.out; have := n1.out; have := n2.out; have := n3.out; omega)
        have st9 := st_cat (v' := .slice (some ⟨v3.heap.size, 0, none⟩) 1 1) (b' := fun _ => 0) rfl rfl rfl b4
        have x1 : Fr (Only (V0.drew.heap.size)) v4 (v4.setRow (V0.drew.heap.size) (brA (.slice (some ⟨v3.heap.size, 0, none⟩) 1 1) fun _ => 0)) := fr_row12 (Fr.refl (Only (V0.drew.heap.size)) v4) (.inl rfl) _
        have HFin : Hid (Fr No w (v4.setRow (V0.drew.heap.size) (brA (.slice (some ⟨v3.heap.size, 0, none⟩) 1 1) fun _ => 0))) := Lib.hid ((G0.out.trans' D4.out (fun _ _ e => e)).trans' x1 (fun i hi e => by have e : i = V0.drew.heap.size := e; have := hsz.out; omega))
        have HEx : Hid (Ex14 (v4.setRow (V0.drew.heap.size) (brA (.slice (some ⟨v3.heap.size, 0, none⟩) 1 1) fun _ => 0)) w.heap.size (v3.heap.size) (v2.heap.size) (v1.heap.size) (V0.drew.heap.size)) := Lib.hid ⟨(bI.out.fr D4.out (fun e => e)).fr x1 (fun e => by have e : w.heap.size = V0.drew.heap.size := e; have := hsz.out; omega), (q3.out.fr ((Fr.refl No v3).trans' g4.out (fun _ _ e => e)) (fun e => e)).fr x1 (fun e => by have e : v2.heap.size = V0.drew.heap.size := e; have := hsz.out; omega), (q2.out.fr (((Fr.refl No v2).trans' g3.out (fun _ _ e => e)).trans' g4.out (fun _ _ e => e)) (fun e => e)).fr x1 (fun e => by have e : v1.heap.size = V0.drew.heap.size := e; have := hsz.out; omega), (q4.out.fr (Fr.refl No v4) (fun e => e)).fr x1 (fun e => by have e : v3.heap.size = V0.drew.heap.size := e; have := hsz.out; omega), bk_row12 b4 _⟩
        have s9 := HS.out (v4.setRow (V0.drew.heap.size) (brA (.slice (some ⟨v3.heap.size, 0, none⟩) 1 1) fun _ => 0)) ((D4.out.weak (fun _ _ e => e.elim)).trans' x1 (fun i _ e => by have e : i = V0.drew.heap.size := e; have := hsz.out; have := n0.out; omega))
        have hle : w.heap.size ≤ V0.drew.heap.size := by have := hsz.out; omega
        refine any_store12 (i := 9) (by kernel_rfl) rfl rfl (by rfl) (exec_st rfl rfl st9) s9 ?_
        refine wpAnyH_done (by kernel_rfl) ?_ _
        clear hHeld b4 st9 x1 s9
        go_wp2
        go_meet
        exact ⟨V0.drew.heap.size, v3.heap.size, v2.heap.size, v1.heap.size, rfl, hle, HFin, HEx⟩
  case rest =>
    obtain ⟨X, C, A1, A2, rfl, hXw, hf, hE⟩ := hcut
    obtain ⟨V, hV⟩ : ∃ V, Hid (V = wc.setCell ⟨X, 1, none⟩ (.int .i64 2)) := ⟨_, Lib.hid rfl⟩
    have bx := hE.out.x
    have q1 := bx.cell 1
    have q1f := bx.frozen 1
    have hXs : X ≠ w.heap.size := (Bk.apart bx hE.out.i (by decide))
    have hXa : X ≠ A1 := (Bk.apart bx hE.out.s (by decide))
    have hXb : X ≠ A2 := (Bk.apart bx hE.out.z (by decide))
    have hXc : X ≠ C := (Bk.apart bx hE.out.c (by decide))
    have fV : Fr (fun i => i = X) wc V := by rw [hV.out]; exact (Fr.refl (fun i => i = X) wc).setCell (.inl rfl) _
    have bV : Bk V X 26 (brA (.slice (some ⟨C, 0, none⟩) 1 1) exB14) := by rw [hV.out]; exact bx.put 1 (.int .i64 2)
    have hok : Ex12 V w.heap.size C A1 A2 := ⟨hE.out.i.fr fV (fun e => hXs e.symm), hE.out.s.fr fV (fun e => hXa e.symm), hE.out.z.fr fV (fun e => hXb e.symm), hE.out.c.fr fV (fun e => hXc e.symm)⟩
    have hx : Clss V (some ⟨C, 0, none⟩) [exC w.heap.size A1 A2] := by
      refine ⟨sl_bk12 hok.c rfl, fun c hc => ?_⟩
      rw [List.mem_singleton.1 hc]
      exact hok.ok
    have hp : Ctl.p ⟨some ⟨C, 0, none⟩, [exC w.heap.size A1 A2], 1, exB14⟩ = exP14 := rfl
    have C1 := bounds_any ⟨some ⟨C, 0, none⟩, [exC w.heap.size A1 A2], 1, exB14⟩ 0 0 0 V hx (by rw [hp]; exact ex14_ok)
    unfold Unt at C1
    rw [hp, ex14_u.1, ex14_u.2.1, ex14_u.2.2] at C1
    unfold Ctl.agg at C1
    obtain ⟨Z, hZ⟩ : ∃ Z, Z = Ctl.arr ⟨some ⟨C, 0, none⟩, [exC w.heap.size A1 A2], 1, exB14⟩ := ⟨_, rfl⟩
    rw [← hZ] at C1
    have hld := Lib.hid (ld_cat (hZ.trans (Ctl.arr_eq _)) (show Bk V X 26 Z by rw [hZ]; exact bV))
    have HC1 := Lib.hid C1
    have HFV : Hid (Fr No w V) := Lib.hid (by
      refine hf.out.trans' fV (fun i hi e => ?_)
      have e : i = X := e
      omega)
    have hwe := hV.out.symm
    unfold brA at q1
    simp at q1
    clear hx hp C1 hok bV fV bx hZ hXs hXa hXb hXc hXw
    go_wp2_with (first
      | ((with_reducible refine wpl_ld ?_ ?_ hld.out ?_); (· rfl); (· rfl); simp only [Act.put, List.setIfInBounds_toArray, List.set_cons_zero, List.set_cons_succ]))
    refine (HC1.out).mono ?_
    rintro e w4 ⟨rfl, g4⟩
    go_wp2
    go_ret
    exact ⟨rfl, HFV.out.trans' g4 (fun _ _ e => e)⟩
end Go.Proofs.Ytkihbjgmmaklaaa
