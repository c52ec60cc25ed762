/- The law: the units of any classes, and whether they are open; closed, a class is one unit, open, each step is one. -/
import Derived.Test.YtkihbjgmmaklaaaBds14
import Derived.Test.YtkihbjgmmaklaaaRmy12
import Derived.Test.YtkihbjgmmaklaaaLf12
namespace Go.Proofs.Ytkihbjgmmaklaaa
open Go.RowKit

/-- Units of an open catalogue; of a closed one. -/
theorem opened_isU (x : PCt) (c d i : Int) : x.opened.isU c d i = x.isU c d i := rfl
theorem closed_isU (x : PCt) (c d i : Int) : x.closed.isU c d i = x.isU c d i := rfl
theorem opened_u {x : PCt} (hok : x.ok = true) {c d i : Int} (h : x.isU c d i = true) : x.opened.uLo c d i = i ∧ x.opened.uHi c d i = i := by
  obtain ⟨h1, h2, h3, h4⟩ := isU_parts h
  unfold PCt.has at h1 h2
  rw [decide_eq_true_eq] at h1 h2
  have hn : x.cs.length ≤ 4 := by
    unfold PCt.ok at hok
    simp only [Bool.and_eq_true, decide_eq_true_eq] at hok
    exact hok.1.2
  have hall : ∀ k, k + 1 < x.steps c → x.opened.bks c d k = true := fun k hk => by
    unfold PCt.bks
    rw [opened_brk hok, decide_eq_true (show 0 ≤ c ∧ c < (x.cs.length : Int) ∧ c < 4 by omega), decide_eq_true (show 0 ≤ d ∧ d < (x.cs.length : Int) ∧ d < 4 by omega)]
    unfold PCt.steps at hk
    exact decide_eq_true (by omega)
  unfold PCt.uLo PCt.uHi
  rw [opened_isU, if_pos h, if_pos h]
  have e : x.opened.steps c = x.steps c := rfl
  rw [e, lo_all hall (show i.toNat < x.steps c by omega), hi_all hall (show i.toNat < x.steps c by omega)]
  omega
theorem closed_u {x : PCt} {c d i : Int} (h : x.isU c d i = true) : x.closed.uLo c d i = 0 ∧ x.closed.uHi c d i = (x.steps c : Int) - 1 := by
  obtain ⟨h1, h2, h3, h4⟩ := isU_parts h
  have hnone : ∀ k, x.closed.bks c d k = false := fun k => closed_brk x c d k
  unfold PCt.uLo PCt.uHi
  rw [closed_isU, if_pos h, if_pos h]
  have e : x.closed.steps c = x.steps c := rfl
  rw [e, lo_none hnone, hi_none hnone (show i.toNat < x.steps c by omega)]
  omega
theorem copR_ok {w : World} {p : PCt} {y : Ctl} {w' W : World} (hp : y.p = p) (hok : p.ok = true) (hc : ∀ V, Fr (fun i => i < w.heap.size) w' V → Clss V y.cA y.cls) (h : Fr No w' W) : Clss W y.cA y.cls ∧ y.p.ok = true :=
  ⟨hc W (h.weak (fun _ _ e => e.elim)), by rw [hp]; exact hok⟩
set_option maxRecDepth 100000 in
set_option maxHeartbeats 8000000 in
theorem unitsBounds_any (x : Ctl) (c d i : Int) (w : World) (hx : Clss w x.cA x.cls) (hi : I64 i) : Calls Try.prog 3 #[x.agg, .int .i64 c, .int .i64 d, .int .i64 i] w (Has w true) := by
  have Hal := Lib.hid (fun (W : World) => alive14 W)
  have HM := Lib.hid (fun W (h : Fr No w W) => refMay12_any x W (hx.since h))
  have HB := Lib.hid (fun (hok : x.p.ok = true) W (h : Fr No w W) => bounds_any x c d i W (hx.since h) hok)
  have HR := Lib.hid (fun (hok : x.p.ok = true) (j : Int) W (h : Fr No w W) => refBounds14_any x c d j W (hx.since h) hok)
  have HU := Lib.hid (fun (hok : x.p.ok = true) W (h : Fr No w W) => openU_any x c d i W (hx.since h) hok hi)
  have HO := Lib.hid (fun (hok : x.p.ok = true) W (h : Fr No w W) => open_any x W (hx.since h) (nice_of_ok hok))
  have HC := Lib.hid (fun (hok : x.p.ok = true) W (h : Fr No w W) => closed_any x W (hx.since h) (nice_of_ok hok))
  have HyB := Lib.hid (fun (y : Ctl) (hok : y.p.ok = true) W (h : Clss W y.cA y.cls) => bounds_any y c d i W h hok)
  have HOu := Lib.hid (fun (hok : x.p.ok = true) (h : x.p.isU c d i = true) => opened_u hok h)
  have HCu := Lib.hid (fun (h : x.p.isU c d i = true) => closed_u h)
  have Hpt := Lib.hid (fun (h : x.p.isU c d i = true) => isU_parts h)
  have Hst := Lib.hid (fun (k : Nat) (hk : k < x.cls.length) => steps_eq x hk)
  have Hhas := Lib.hid (has_eq x c)
  have HuO : Hid (x.p.uOpen c d i = (decide (0 < i) && (x.p.isU c d (i - 1) && decide (i ≤ x.p.uHi c d (i - 1))))) := Lib.hid rfl
  have HN : Hid (x.p.isU c d i = false → x.p.uLo c d i = 0 ∧ x.p.uHi c d i = 0) := Lib.hid (fun h => by unfold PCt.uLo PCt.uHi; rw [h]; exact ⟨rfl, rfl⟩)
  have Hsl := Lib.hid (fun (k : Nat) (hk : k < x.cls.length) W (h : Fr No w W) => (hx.since h).sl.cls hk)
  have Hfew0 := Lib.hid (fun (hok : x.p.ok = true) => (nice_of_ok hok).few)
  have HOok := Lib.hid (fun (h : x.p.ok = true) => opened_ok h)
  have HCok := Lib.hid (fun (h : x.p.ok = true) => closed_ok h)
  unfold Unt at HB
  rw [HuO.out] at HU
  unfold Ctl.agg at HM HB HR HU HO HC ⊢
  obtain ⟨Z, hZ⟩ : ∃ Z, Z = x.arr := ⟨_, rfl⟩
  rw [← hZ] at HM HB HR HU HO HC ⊢
  rw [Ctl.arr_eq] at hZ
  obtain ⟨W0, hW0⟩ : ∃ W0, W0 = w.alloc (.cells Z 26) := ⟨_, rfl⟩
  have bZ : Bk W0 w.heap.size 26 Z := by rw [hW0]; exact Bk.made w _ _
  have HF0 : Hid (Fr No w W0) := Lib.hid (by rw [hW0]; exact (Fr.refl _ _).alloc _)
  have HLd : Hid (∀ V, Fr No W0 V → LdO V 26 ⟨w.heap.size, 0, none⟩ (.agg Z) ∧ V.cell? ⟨w.heap.size, 0, none⟩ = some (.slice x.cA x.cls.length x.cc)) := Lib.hid (fun V h => ⟨ld_cat hZ (bZ.fr h (fun e => e)), by rw [(bZ.fr h (fun e => e)).cell, hZ]; rfl⟩)
  have hwe := hW0.symm
  clear hZ hW0 bZ
  generalize x.p = p at *
  clear hx HuO
  have HL := Lib.hid (fun V (h : Fr No W0 V) => (HLd.out V h).1)
  go_enter Try.func3, Try.ntmps3
  go_wp2_with fail
  refine (Hal.out _).mono ?_
  rintro e w1 ⟨rfl, f1⟩
  have F1 := Lib.hid f1
  have HL1 := Lib.hid (HL.out _ f1)
  have HM1 := Lib.hid (HM.out _ (HF0.out.trans' f1 (fun _ _ e => e)))
  clear f1 Hal HM
  go_wp2_with (first
    | ((with_reducible refine wpl_ld ?_ ?_ HL1.out ?_); (· rfl); (· rfl); simp only [Act.put, List.setIfInBounds_toArray, List.set_cons_zero, List.set_cons_succ]))
  refine (HM1.out).mono ?_
  rintro e w2 ⟨rfl, f2⟩
  have F2 := Lib.hid (F1.out.trans' f2 (fun _ _ e => e))
  obtain ⟨ok, hok⟩ : ∃ b, p.ok = b := ⟨_, rfl⟩
  rw [hok]
  clear f2 HM1 HL1
  cases ok
  · go_wp2
    go_ret
    exact ⟨rfl, HF0.out.trans' F2.out (fun _ _ e => e)⟩
  have HB2 := Lib.hid (HB.out hok _ (HF0.out.trans' F2.out (fun _ _ e => e)))
  have HR2 := Lib.hid (HR.out hok)
  have HU2 := Lib.hid (HU.out hok)
  have HO2 := Lib.hid (HO.out hok)
  have HC2 := Lib.hid (HC.out hok)
  have HOu2 := Lib.hid (HOu.out hok)
  have HOok2 := HOok.out hok
  have Hfew := Lib.hid (Hfew0.out hok)
  have HCok2 := HCok.out hok
  have HL2 := Lib.hid (HL.out _ F2.out)
  clear HB HR HU HO HC HOu HOok HCok hok
  obtain ⟨u, hu⟩ : ∃ u, p.isU c d i = u := ⟨_, rfl⟩
  obtain ⟨lo, hlo⟩ : ∃ u, p.uLo c d i = u := ⟨_, rfl⟩
  obtain ⟨hh, hhh⟩ : ∃ u, p.uHi c d i = u := ⟨_, rfl⟩
  have HRi := Lib.hid (HR2.out i)
  rw [hu, hlo, hhh] at HB2 HRi
  rw [hu, hlo, hhh] at HN
  rw [hu] at HOu2 HCu Hpt
  have hb1 : (u != u) = false := by cases u <;> rfl
  have Hu := Lib.hid hu
  clear hu hlo hhh
  go_wp2_with (first
    | ((with_reducible refine wpl_ld ?_ ?_ HL2.out ?_); (· rfl); (· rfl); simp only [Act.put, List.setIfInBounds_toArray, List.set_cons_zero, List.set_cons_succ]))
  refine (HB2.out).mono ?_
  rintro e w3 ⟨rfl, f3⟩
  have F3 := Lib.hid (F2.out.trans' f3 (fun _ _ e => e))
  have HL3 := Lib.hid (HL.out _ F3.out)
  have HR3 := Lib.hid (HRi.out _ (HF0.out.trans' F3.out (fun _ _ e => e)))
  clear f3 HB2 HL2 HRi
  go_wp2_with (first
    | ((with_reducible refine wpl_ld ?_ ?_ HL3.out ?_); (· rfl); (· rfl); simp only [Act.put, List.setIfInBounds_toArray, List.set_cons_zero, List.set_cons_succ]))
  refine (HR3.out).mono ?_
  rintro e w4 ⟨rfl, f4⟩
  have F4 := Lib.hid (F3.out.trans' f4 (fun _ _ e => e))
  clear f4 HR3 HL3
  obtain ⟨u1, hu1⟩ : ∃ u, p.isU c d (i - 1) = u := ⟨_, rfl⟩
  obtain ⟨h1, hh1⟩ : ∃ u, p.uHi c d (i - 1) = u := ⟨_, rfl⟩
  obtain ⟨l1, hl1⟩ : ∃ u, p.uLo c d (i - 1) = u := ⟨_, rfl⟩
  have HRm := Lib.hid (HR2.out (i - 1))
  rw [hu1, hh1, hl1] at HRm
  rw [hu1, hh1] at HU2
  obtain ⟨op, hop⟩ : ∃ b, (decide (0 < i) && (u1 && decide (i ≤ h1))) = b := ⟨_, rfl⟩
  rw [hop] at HU2
  have hop2 : (op != op) = false := by cases op <;> rfl
  have Hop := Lib.hid hop
  have hI := hi
  unfold I64 at hI
  clear hop hu1 hh1 hl1
  go_upto_if 62 with fail
  go_cut [15, 16, 17, 18] from 62 to 78 (fun s15 s16 s17 s18 wx => s15 = .bool op ∧ Hid (Fr No W0 wx))
  case first =>
    by_cases h0 : 0 < i
    · have d0 : decide (0 < i) = true := decide_eq_true h0
      rw [d0] at Hop
      have HL4 := Lib.hid (HL.out _ F4.out)
      have HR4 := Lib.hid (HRm.out _ (HF0.out.trans' F4.out (fun _ _ e => e)))
      clear HRm
      go_wp2_with (first
        | ((with_reducible refine wpl_ld ?_ ?_ HL4.out ?_); (· rfl); (· rfl); simp only [Act.put, List.setIfInBounds_toArray, List.set_cons_zero, List.set_cons_succ]))
      refine (HR4.out).mono ?_
      rintro e w5 ⟨rfl, f5⟩
      have F5 := Lib.hid (F4.out.trans' f5 (fun _ _ e => e))
      clear f5 HR4 HL4
      cases u1
      · have hq : op = false := by rw [← Hop.out]; rfl
        clear Hop
        go_wp2
        go_meet
        exact ⟨by rw [hq], F5⟩
      · by_cases hle : i ≤ h1
        · have d1 : decide (i ≤ h1) = true := decide_eq_true hle
          have hq : op = true := by rw [← Hop.out, d1]; rfl
          clear Hop
          go_wp2
          go_meet
          exact ⟨by rw [hq], F5⟩
        · have d1 : decide (i ≤ h1) = false := decide_eq_false hle
          have hq : op = false := by rw [← Hop.out, d1]; rfl
          clear Hop
          go_wp2
          go_meet
          exact ⟨by rw [hq], F5⟩
    · have d0 : decide (0 < i) = false := decide_eq_false h0
      have hq : op = false := by rw [← Hop.out, d0]; rfl
      clear Hop
      go_wp2
      go_meet
      exact ⟨by rw [hq], F4⟩
  case rest =>
    obtain ⟨rfl, F5⟩ := hcut
    have HL5 := Lib.hid (HL.out _ F5.out)
    have HU5 := Lib.hid (HU2.out _ (HF0.out.trans' F5.out (fun _ _ e => e)))
    clear HU2 HRm F4 F3 F2 F1 Hop
    cases u
    · obtain ⟨rfl, rfl⟩ := HN.out rfl
      clear HN HO2 HC2
      go_wp2_with (first
        | ((with_reducible refine wpl_ld ?_ ?_ HL5.out ?_); (· rfl); (· rfl); simp only [Act.put, List.setIfInBounds_toArray, List.set_cons_zero, List.set_cons_succ]))
      refine (HU5.out).mono ?_
      rintro e w6 ⟨rfl, f6⟩
      go_wp2
      go_ret
      exact ⟨rfl, HF0.out.trans' (F5.out.trans' f6 (fun _ _ e => e)) (fun _ _ e => e)⟩
    obtain ⟨p1, p2, p3, p4⟩ := Hpt.out rfl
    have hcn := p1
    rw [Hhas.out, decide_eq_true_eq] at hcn
    obtain ⟨k, rfl⟩ := Int.eq_ofNat_of_zero_le hcn.1
    have hk : k < x.cls.length := by omega
    have hkn : ((k : Nat) : Int) < (x.cls.length : Int) := by omega
    have Hs := Lib.hid (Hst.out k hk)
    obtain ⟨e1, e2⟩ := HOu2.out rfl
    obtain ⟨e3, e4⟩ := HCu.out rfl
    rw [Hs.out] at e4
    have HyO := Lib.hid (fun (y : Ctl) (hy : y.p = p.opened) W (h : Clss W y.cA y.cls) => show Calls Try.prog 10 #[y.agg, .int .i64 (k : Int), .int .i64 d, .int .i64 i] W (fun e w' => e = .returned (.tuple #[.int .i64 i, .int .i64 i, .bool true]) ∧ Fr No W w') by
      have h2 := HyB.out y (by rw [hy]; exact HOok2) W h
      unfold Unt at h2
      rw [hy, e1, e2, opened_isU, Hu.out] at h2
      exact h2)
    have HyC := Lib.hid (fun (y : Ctl) (hy : y.p = p.closed) W (h : Clss W y.cA y.cls) => show Calls Try.prog 10 #[y.agg, .int .i64 (k : Int), .int .i64 d, .int .i64 i] W (fun e w' => e = .returned (.tuple #[.int .i64 0, .int .i64 ((x.cls[k].steps.length : Int) - 1), .bool true]) ∧ Fr No W w') by
      have h2 := HyB.out y (by rw [hy]; exact HCok2) W h
      unfold Unt at h2
      rw [hy, e3, e4, closed_isU, Hu.out] at h2
      exact h2)
    have HSl := Lib.hid (fun W h => Hsl.out k hk W h)
    have hL1 : 0 < (x.cls[k].steps.length : Int) := by rw [← Hs.out]; omega
    have hL2 : (x.cls[k].steps.length : Int) < 1099511627776 := by
      have h5 := (Hfew.out).st _ (List.getElem_mem hk)
      omega
    generalize x.cls[k].steps.length = L at *
    generalize x.cls[k].comps.length = M at *
    generalize x.cls[k].name = nm at *
    generalize x.cls[k].args = ar at *
    generalize x.cls[k].sA = sA at *
    generalize x.cls[k].sc = sc at *
    generalize x.cls[k].uA = uA at *
    generalize x.cls[k].uc = uc at *
    generalize x.cls[k].res = re at *
    generalize x.cA = cA at *
    clear HN Hpt HOu2 HCu HyB Hst Hhas hcn p1 p2 p3 p4 e1 e2 e3 e4 Hs Hu
    go_wp2_with (first
      | ((with_reducible refine wpl_ld ?_ ?_ HL5.out ?_); (· rfl); (· rfl); simp only [Act.put, List.setIfInBounds_toArray, List.set_cons_zero, List.set_cons_succ]))
    refine (HU5.out).mono ?_
    rintro e w6 ⟨rfl, f6⟩
    have F6 := Lib.hid (F5.out.trans' f6 (fun _ _ e => e))
    have HL6 := Lib.hid (HL.out _ F6.out)
    have HO6 := Lib.hid (HO2.out _ (HF0.out.trans' F6.out (fun _ _ e => e)))
    clear f6 HU5 HL5 HO2
    go_wp2_with (first
      | ((with_reducible refine wpl_ld ?_ ?_ HL6.out ?_); (· rfl); (· rfl); simp only [Act.put, List.setIfInBounds_toArray, List.set_cons_zero, List.set_cons_succ]))
    refine (HO6.out).mono ?_
    rintro e w7 ⟨y, rfl, hyp, hyc, f7⟩
    have F7 := Lib.hid (F6.out.trans' f7 (fun _ _ e => e))
    have HB7 := Lib.hid (HyO.out y hyp w7 (hyc w7 (Fr.refl _ _)))
    generalize y.agg = ya at *
    clear hyp hyc f7 HO6 HL6 HyO
    go_wp2_with fail
    refine (HB7.out).mono ?_
    rintro e w8 ⟨rfl, f8⟩
    have F8 := Lib.hid (F7.out.trans' f8 (fun _ _ e => e))
    have HL8 := Lib.hid (HL.out _ F8.out)
    have HC8 := Lib.hid (HC2.out _ (HF0.out.trans' F8.out (fun _ _ e => e)))
    clear f8 HB7 HC2
    go_wp2_with (first
      | ((with_reducible refine wpl_ld ?_ ?_ HL8.out ?_); (· rfl); (· rfl); simp only [Act.put, List.setIfInBounds_toArray, List.set_cons_zero, List.set_cons_succ]))
    refine (HC8.out).mono ?_
    rintro e w9 ⟨z, rfl, hzp, hzc, f9⟩
    have F9 := Lib.hid (F8.out.trans' f9 (fun _ _ e => e))
    have HB9 := Lib.hid (HyC.out z hzp w9 (hzc w9 (Fr.refl _ _)))
    generalize z.agg = za at *
    clear hzp hzc f9 HC8 HL8 HyC
    go_wp2_with fail
    refine (HB9.out).mono ?_
    rintro e wa ⟨rfl, fa⟩
    have FA := Lib.hid (F9.out.trans' fa (fun _ _ e => e))
    have y0 := (HLd.out _ FA.out).2
    obtain ⟨ad, e1, hab, c0, c1, c2, c3, c4⟩ := HSl.out _ (HF0.out.trans' FA.out (fun _ _ e => e))
    subst e1
    clear fa HB9 c0 c1 c3 c4
    go_wp2
    go_ret
    exact ⟨rfl, HF0.out.trans' FA.out (fun _ _ e => e)⟩
end Go.Proofs.Ytkihbjgmmaklaaa
