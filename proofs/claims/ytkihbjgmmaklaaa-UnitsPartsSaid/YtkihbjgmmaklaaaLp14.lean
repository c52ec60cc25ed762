/- The law: units have each step of a class once, one unit behind the other; with more breakpoints no unit is greater. -/
import Derived.Test.YtkihbjgmmaklaaaLb14
namespace Go.Proofs.Ytkihbjgmmaklaaa
open Go.RowKit

set_option maxRecDepth 100000 in
set_option maxHeartbeats 8000000 in
theorem unitsParts_any (x : Ctl) (c d : Int) (w : World) (hx : Clss w x.cA x.cls) : Calls Try.prog 7 #[x.agg, .int .i64 c, .int .i64 d] w (Has w true) := by
  have Hal := Lib.hid (fun (W : World) => alive14 W)
  have HM := Lib.hid (fun W (h : Fr No w W) => refMay12_any x W (hx.since h))
  have HT1 := Lib.hid (fun W => refThere14_any x c W)
  have HT2 := Lib.hid (fun W => refThere14_any x d W)
  have HB := Lib.hid (fun (hok : x.p.ok = true) (i : Int) W (h : Fr No w W) => bounds_any x c d i W (hx.since h) hok)
  have HO := Lib.hid (fun (hok : x.p.ok = true) W (h : Fr No w W) => open_any x W (hx.since h) (nice_of_ok hok))
  have HyB := Lib.hid (fun (y : Ctl) (hok : y.p.ok = true) (i : Int) W (h : Clss W y.cA y.cls) => bounds_any y c d i W h hok)
  have HOu := Lib.hid (fun (hok : x.p.ok = true) (i : Int) (h : x.p.isU c d i = true) => opened_u hok h)
  have Hst := Lib.hid (fun (k : Nat) (hk : k < x.cls.length) => steps_eq x hk)
  have Hhas := Lib.hid (has_eq x c)
  have Hsl := Lib.hid (fun (k : Nat) (hk : k < x.cls.length) W (h : Fr No w W) => (hx.since h).sl.cls hk)
  have HOok := Lib.hid (fun (h : x.p.ok = true) => opened_ok h)
  have Hfew0 := Lib.hid (fun (hok : x.p.ok = true) => (nice_of_ok hok).few)
  unfold Unt at HB
  unfold Ctl.agg at HM HT1 HT2 HB HO ⊢
  obtain ⟨Z, hZ⟩ : ∃ Z, Z = x.arr := ⟨_, rfl⟩
  rw [← hZ] at HM HT1 HT2 HB HO ⊢
  rw [Ctl.arr_eq] at hZ
  obtain ⟨W0, hW0⟩ : ∃ W0, W0 = w.alloc (.cells Z 26) := ⟨_, rfl⟩
  have bZ : Bk W0 w.heap.size 26 Z := by rw [hW0]; exact Bk.made w _ _
  have HF0 : Hid (Fr No w W0) := Lib.hid (by rw [hW0]; exact (Fr.refl _ _).alloc _)
  have HLd : Hid (∀ V, Fr No W0 V → LdO V 26 ⟨w.heap.size, 0, none⟩ (.agg Z) ∧ V.cell? ⟨w.heap.size, 0, none⟩ = some (.slice x.cA x.cls.length x.cc)) := Lib.hid (fun V h => ⟨ld_cat hZ (bZ.fr h (fun e => e)), by rw [(bZ.fr h (fun e => e)).cell, hZ]; rfl⟩)
  have hwe := hW0.symm
  clear hZ hW0 bZ
  generalize x.p = p at *
  clear hx
  have HL := Lib.hid (fun V (h : Fr No W0 V) => (HLd.out V h).1)
  go_enter Try.func7, Try.ntmps7
  go_wp2_with fail
  refine (Hal.out _).mono ?_
  rintro e w1 ⟨rfl, f1⟩
  have F1 := Lib.hid f1
  have HL1 := Lib.hid (HL.out _ f1)
  have HM1 := Lib.hid (HM.out _ (HF0.out.trans' f1 (fun _ _ e => e)))
  clear f1 Hal HM hwe
  go_wp2_with (first
    | ((with_reducible refine wpl_ld ?_ ?_ HL1.out ?_); (· rfl); (· rfl); simp only [Act.put, List.setIfInBounds_toArray, List.set_cons_zero, List.set_cons_succ]))
  refine (HM1.out).mono ?_
  rintro e w2 ⟨rfl, f2⟩
  have F2 := Lib.hid (F1.out.trans' f2 (fun _ _ e => e))
  have HL2 := Lib.hid (HL.out _ F2.out)
  obtain ⟨ok, hok⟩ : ∃ b, p.ok = b := ⟨_, rfl⟩
  rw [hok]
  clear f2 HM1 HL1
  cases ok
  · go_wp2
    go_ret
    exact ⟨rfl, HF0.out.trans' F2.out (fun _ _ e => e)⟩
  obtain ⟨b1, hb1⟩ : ∃ b, p.has c = b := ⟨_, rfl⟩
  obtain ⟨b2, hb2⟩ : ∃ b, p.has d = b := ⟨_, rfl⟩
  rw [hb1] at HT1
  rw [hb2] at HT2
  go_wp2_with (first
    | ((with_reducible refine wpl_ldg ?_ ?_ HL2.out ?_); (· rfl); (· rfl); simp only [Act.put, List.setIfInBounds_toArray, List.set_cons_zero, List.set_cons_succ]))
  refine (HT1.out _).mono ?_
  rintro e w3 ⟨rfl, f3⟩
  have F3 := Lib.hid (F2.out.trans' f3 (fun _ _ e => e))
  have HL3 := Lib.hid (HL.out _ F3.out)
  clear f3 HL2 HT1
  cases b1
  · go_wp2
    go_ret
    exact ⟨rfl, HF0.out.trans' F3.out (fun _ _ e => e)⟩
  go_wp2_with (first
    | ((with_reducible refine wpl_ldg ?_ ?_ HL3.out ?_); (· rfl); (· rfl); simp only [Act.put, List.setIfInBounds_toArray, List.set_cons_zero, List.set_cons_succ]))
  refine (HT2.out _).mono ?_
  rintro e w4 ⟨rfl, f4⟩
  have F4 := Lib.hid (F3.out.trans' f4 (fun _ _ e => e))
  clear f4 HL3 HT2
  cases b2
  · go_wp2
    go_ret
    exact ⟨rfl, HF0.out.trans' F4.out (fun _ _ e => e)⟩
  have hcn := hb1
  rw [Hhas.out, decide_eq_true_eq] at hcn
  obtain ⟨n, rfl⟩ := Int.eq_ofNat_of_zero_le hcn.1
  have hk : n < x.cls.length := by omega
  have hkn : ((n : Nat) : Int) < (x.cls.length : Int) := by omega
  have Hs := Lib.hid (Hst.out n hk)
  have hL4 : x.cls[n].steps.length ≤ 4 := (Hfew0.out hok).st _ (List.getElem_mem hk)
  have HUi : Hid (∀ i : Nat, i < x.cls[n].steps.length → p.isU (n : Int) d (i : Int) = true ∧ p.uLo (n : Int) d (i : Int) = (loP (p.bks (n : Int) d) i : Nat) ∧ p.uHi (n : Int) d (i : Int) = (hiP (p.bks (n : Int) d) x.cls[n].steps.length i : Nat)) := Lib.hid (fun i hi => by
    have hu : p.isU (n : Int) d (i : Int) = true := by
      unfold PCt.isU
      rw [hb1, hb2, Hs.out, decide_eq_true (by omega)]
      rfl
    unfold PCt.uLo PCt.uHi
    rw [if_pos hu, if_pos hu, Hs.out]
    exact ⟨hu, rfl, rfl⟩)
  have HB2 := Lib.hid (fun (i : Nat) (hi : i < x.cls[n].steps.length) W (h : Fr No w W) => show Calls Try.prog 10 #[.agg Z, .int .i64 (n : Int), .int .i64 d, .int .i64 (i : Int)] W (fun e w' => e = .returned (.tuple #[.int .i64 ((loP (p.bks (n : Int) d) i : Nat) : Int), .int .i64 ((hiP (p.bks (n : Int) d) x.cls[n].steps.length i : Nat) : Int), .bool true]) ∧ Fr No W w') by
    have h2 := HB.out hok i W h
    obtain ⟨e1, e2, e3⟩ := HUi.out i hi
    rw [e1, e2, e3] at h2
    exact h2)
  have HOok2 := HOok.out hok
  have HyO := Lib.hid (fun (y : Ctl) (hy : y.p = p.opened) (i : Nat) (hi : i < x.cls[n].steps.length) W (h : Clss W y.cA y.cls) => show Calls Try.prog 10 #[y.agg, .int .i64 (n : Int), .int .i64 d, .int .i64 (i : Int)] W (fun e w' => e = .returned (.tuple #[.int .i64 (i : Int), .int .i64 (i : Int), .bool true]) ∧ Fr No W w') by
    have h2 := HyB.out y (by rw [hy]; exact HOok2) i W h
    unfold Unt at h2
    obtain ⟨e0, -, -⟩ := HUi.out i hi
    obtain ⟨e1, e2⟩ := HOu.out hok i e0
    rw [hy, e1, e2, opened_isU, e0] at h2
    exact h2)
  have HO2 := Lib.hid (HO.out hok)
  have HSl := Lib.hid (fun W h => Hsl.out n hk W h)
  generalize p.bks (n : Int) d = q at *
  clear HUi HB HO HyB HOu Hst Hhas HOok HOok2 Hfew0 Hs hcn
  generalize x.cls[n].steps.length = L at *
  generalize x.cls[n].comps.length = M at *
  generalize x.cls[n].name = nm at *
  generalize x.cls[n].args = ar at *
  generalize x.cls[n].sA = sA at *
  generalize x.cls[n].sc = sc at *
  generalize x.cls[n].uA = uA at *
  generalize x.cls[n].uc = uc at *
  generalize x.cls[n].res = re at *
  generalize x.cA = cA at *
  clear F1 F2 F3 hok hb1 hb2
  go_wp2
  go_loopw [7] (fun nv wr => ∃ j : Nat, j ≤ L ∧ nv = .int .i64 (j : Int) ∧ Hid (j < L → loP q j = j) ∧ Hid (Fr No W0 wr)) (fun nv _ => L - (intOf nv).toNat)
  case atStart => exact ⟨0, Nat.zero_le _, rfl, Lib.hid (fun _ => rfl), F4⟩
  case round =>
    obtain ⟨j, hj, rfl, hlo, hfr⟩ := hrel
    have y0 := (HLd.out wr hfr.out).2
    obtain ⟨ad, rfl, hab, c0, c1, c2, c3, c4⟩ := HSl.out wr (HF0.out.trans' hfr.out (fun _ _ e => e))
    clear c0 c1 c3 c4
    by_cases hlt : j < L
    · have HLw := Lib.hid (HL.out _ hfr.out)
      have HBj := Lib.hid (HB2.out j hlt wr (HF0.out.trans' hfr.out (fun _ _ e => e)))
      rw [hlo.out hlt] at HBj
      have Hh : Hid (∀ i, j ≤ i → i ≤ hiP q L j → loP q i = j ∧ hiP q L i = hiP q L j) := Lib.hid (fun i h1 h2 => by
        have hhl := hiP_lt q hlt
        have hu := (unit_iff (p := q) (n := L) hlt (show i < L by omega)).2 ⟨by rw [hlo.out hlt]; exact h1, h2⟩
        exact ⟨(lo_same hlt (by omega) hu).trans (hlo.out hlt), hi_same hlt (by omega) hu⟩)
      have hge := hiP_ge q L j
      have hhl := hiP_lt q hlt
      have Hnx : Hid (hiP q L j + 1 < L → loP q (hiP q L j + 1) = hiP q L j + 1) := Lib.hid (fun h => by
        unfold loP
        rw [if_pos]
        rcases runP_brk q (L - 1 - j) j with e | e
        · unfold hiP at h
          omega
        · exact e)
      generalize hiP q L j = hh at *
      have dj : decide (hh < j) = false := decide_eq_false (by omega)
      have dj' : decide ((hh : Int) < (j : Int)) = false := decide_eq_false (by omega)
      clear hlo
      go_wp2_with (first
        | ((with_reducible refine wpl_ld ?_ ?_ HLw.out ?_); (· rfl); (· rfl); simp only [Act.put, List.setIfInBounds_toArray, List.set_cons_zero, List.set_cons_succ]))
      refine (HBj.out).mono ?_
      rintro e w5 ⟨rfl, f5⟩
      have F5 := Lib.hid (hfr.out.trans' f5 (fun _ _ e => e))
      clear f5 HBj HLw y0 c2
      go_wp2
      go_loopw [11] (fun iv wx => ∃ i : Nat, j ≤ i ∧ i ≤ hh + 1 ∧ iv = .int .i64 (i : Int) ∧ Hid (Fr No W0 wx)) (fun iv _ => hh + 1 - (intOf iv).toNat)
      case atStart => exact ⟨j, by omega, by omega, rfl, F5⟩
      case round =>
        obtain ⟨i, h1, h2, rfl, hfx⟩ := hrel
        by_cases hle : i ≤ hh
        · have HLi := Lib.hid (HL.out _ hfx.out)
          have HBi := Lib.hid (HB2.out i (by omega) _ (HF0.out.trans' hfx.out (fun _ _ e => e)))
          obtain ⟨e1, e2⟩ := Hh.out i h1 hle
          rw [e1, e2] at HBi
          clear e1 e2
          go_wp2_with (first
            | ((with_reducible refine wpl_ld ?_ ?_ HLi.out ?_); (· rfl); (· rfl); simp only [Act.put, List.setIfInBounds_toArray, List.set_cons_zero, List.set_cons_succ]))
          refine (HBi.out).mono ?_
          rintro e w6 ⟨rfl, f6⟩
          have F6 := Lib.hid (hfx.out.trans' f6 (fun _ _ e => e))
          have HL6 := Lib.hid (HL.out _ F6.out)
          have HO6 := Lib.hid (HO2.out _ (HF0.out.trans' F6.out (fun _ _ e => e)))
          clear f6 HBi HLi
          go_wp2_with (first
            | ((with_reducible refine wpl_ld ?_ ?_ HL6.out ?_); (· rfl); (· rfl); simp only [Act.put, List.setIfInBounds_toArray, List.set_cons_zero, List.set_cons_succ]))
          refine (HO6.out).mono ?_
          rintro e w7 ⟨y, rfl, hyp, hyc, f7⟩
          have F7 := Lib.hid (F6.out.trans' f7 (fun _ _ e => e))
          have HB7 := Lib.hid (HyO.out y hyp i (by omega) w7 (hyc w7 (Fr.refl _ _)))
          generalize y.agg = ya at *
          clear hyp hyc f7 HO6 HL6
          go_wp2_with fail
          refine (HB7.out).mono ?_
          rintro e w8 ⟨rfl, f8⟩
          have F8 := Lib.hid (F7.out.trans' f8 (fun _ _ e => e))
          have n1 : ¬ ((i : Int) < (j : Int)) := by omega
          have n2 : ¬ ((hh : Int) < (i : Int)) := by omega
          clear f8 HB7
          go_wp2
          go_roundw
          case rel => exact ⟨i + 1, by omega, by omega, by go_num, F8⟩
          case measure => simp [intOf]; omega
        · obtain rfl : i = hh + 1 := by omega
          go_wp2
          go_roundw
          case rel => exact ⟨hh + 1, by omega, by go_num, Hnx, hfx⟩
          case measure => simp [intOf]; omega
    · obtain rfl : j = L := by omega
      go_wp2
      go_ret
      exact ⟨rfl, HF0.out.trans' hfr.out (fun _ _ e => e)⟩
end Go.Proofs.Ytkihbjgmmaklaaa
