/- The law: whether two outcomes conflict is the document's, either way round. -/
import Derived.Test.YthenadijiepmnaaGreatAlv13
import Derived.Test.YthenadijiepmnaaGreatSam13
namespace Go.Proofs.YthenadijiepmnaaGreat
open Go.RowKit

theorem meets_true13 (s t : Nat → Bool) : meets s t = true ↔ ∃ k, k < 1000 ∧ s k = true ∧ t k = true := meetTo_true s t 1000
theorem meets_or13 (s t u : Nat → Bool) : meets s (fun k => t k || u k) = (meets s t || meets s u) := by
  refine Bool.eq_iff_iff.2 ?_
  rw [Bool.or_eq_true, meets_true13, meets_true13, meets_true13]
  constructor
  · rintro ⟨k, h1, h2, h3⟩
    rcases (Bool.or_eq_true _ _).mp h3 with h | h
    · exact .inl ⟨k, h1, h2, h⟩
    · exact .inr ⟨k, h1, h2, h⟩
  · rintro (⟨k, h1, h2, h3⟩ | ⟨k, h1, h2, h3⟩)
    · exact ⟨k, h1, h2, by simp [h3]⟩
    · exact ⟨k, h1, h2, by simp [h3]⟩
theorem meets_comm13 (s t : Nat → Bool) : meets s t = meets t s := by
  refine Bool.eq_iff_iff.2 ?_
  rw [meets_true13, meets_true13]
  exact ⟨fun ⟨k, h1, h2, h3⟩ => ⟨k, h1, h3, h2⟩, fun ⟨k, h1, h2, h3⟩ => ⟨k, h1, h3, h2⟩⟩
theorem conf_want (a b : Otc) : conf a b = (meets a.kw b.kr || (meets a.kw b.kw || meets a.kr b.kw)) := by
  unfold conf
  rw [meets_or13, meets_or13, meets_comm13 b.kw a.kr, meets_comm13 b.kw a.kw]
  cases meets a.kw b.kr <;> cases meets a.kw b.kw <;> cases meets a.kr b.kw <;> rfl
theorem conf_comm (a b : Otc) : conf b a = conf a b := by
  unfold conf
  rw [Bool.or_comm]
set_option maxRecDepth 100000 in
set_option maxHeartbeats 8000000 in
theorem stepConflict_any (a b : Otc) (w : World) (ha : Otcs w w.heap.size a) (hb : Otcs w w.heap.size b) : Calls Tryz.prog 5 #[a.agg, b.agg] w (Has w true) := by
  have Hal := Lib.hid (fun W => alive13 W)
  have f0 : Fr No w ((w.alloc (.cells #[.int .i64 a.p.code, .int .i64 a.p.at_, .int .i64 (a.p.r 0), .int .i64 (a.p.r 1), .int .i64 (a.p.r 2), .int .i64 (a.p.r 3), .slice a.rA a.p.rd.length a.rc, .slice a.wA a.p.wt.length a.wc, .slice a.cA a.p.ch.length a.cc] 39)).alloc (.cells #[.int .i64 b.p.code, .int .i64 b.p.at_, .int .i64 (b.p.r 0), .int .i64 (b.p.r 1), .int .i64 (b.p.r 2), .int .i64 (b.p.r 3), .slice b.rA b.p.rd.length b.rc, .slice b.wA b.p.wt.length b.wc, .slice b.cA b.p.ch.length b.cc] 39)) := ((Fr.refl _ _).alloc _).alloc _
  have bA := (Bk.made w 39 #[.int .i64 a.p.code, .int .i64 a.p.at_, .int .i64 (a.p.r 0), .int .i64 (a.p.r 1), .int .i64 (a.p.r 2), .int .i64 (a.p.r 3), .slice a.rA a.p.rd.length a.rc, .slice a.wA a.p.wt.length a.wc, .slice a.cA a.p.ch.length a.cc]).alloc (.cells #[.int .i64 b.p.code, .int .i64 b.p.at_, .int .i64 (b.p.r 0), .int .i64 (b.p.r 1), .int .i64 (b.p.r 2), .int .i64 (b.p.r 3), .slice b.rA b.p.rd.length b.rc, .slice b.wA b.p.wt.length b.wc, .slice b.cA b.p.ch.length b.cc] 39)
  have bB := Bk.made (w.alloc (.cells #[.int .i64 a.p.code, .int .i64 a.p.at_, .int .i64 (a.p.r 0), .int .i64 (a.p.r 1), .int .i64 (a.p.r 2), .int .i64 (a.p.r 3), .slice a.rA a.p.rd.length a.rc, .slice a.wA a.p.wt.length a.wc, .slice a.cA a.p.ch.length a.cc] 39)) 39 #[.int .i64 b.p.code, .int .i64 b.p.at_, .int .i64 (b.p.r 0), .int .i64 (b.p.r 1), .int .i64 (b.p.r 2), .int .i64 (b.p.r 3), .slice b.rA b.p.rd.length b.rc, .slice b.wA b.p.wt.length b.wc, .slice b.cA b.p.ch.length b.cc]
  simp only [World.size_alloc] at bB
  obtain ⟨q, hq0⟩ : ∃ q, w.heap.size = q := ⟨_, rfl⟩
  rw [hq0] at bA bB
  obtain ⟨W0, hW0⟩ : ∃ W0, (w.alloc (.cells #[.int .i64 a.p.code, .int .i64 a.p.at_, .int .i64 (a.p.r 0), .int .i64 (a.p.r 1), .int .i64 (a.p.r 2), .int .i64 (a.p.r 3), .slice a.rA a.p.rd.length a.rc, .slice a.wA a.p.wt.length a.wc, .slice a.cA a.p.ch.length a.cc] 39)).alloc (.cells #[.int .i64 b.p.code, .int .i64 b.p.at_, .int .i64 (b.p.r 0), .int .i64 (b.p.r 1), .int .i64 (b.p.r 2), .int .i64 (b.p.r 3), .slice b.rA b.p.rd.length b.rc, .slice b.wA b.p.wt.length b.wc, .slice b.cA b.p.ch.length b.cc] 39) = W0 := ⟨_, rfl⟩
  rw [hW0] at bA bB f0
  have HF0 := Lib.hid f0
  have HbA := Lib.hid (fun W (h : Fr No W0 W) => bA.fr h (fun e => e))
  have HbB := Lib.hid (fun W (h : Fr No W0 W) => bB.fr h (fun e => e))
  by_cases hsm : (a.p.rd.length ≤ 30 ∧ a.p.wt.length ≤ 30) ∧ b.p.rd.length ≤ 30 ∧ b.p.wt.length ≤ 30
  · obtain ⟨⟨l1, l2⟩, l3, l4⟩ := hsm
    have HX := Lib.hid (fun W (hW : Fr No w W) => refOf4_any a.p.rd a.p.rd.length a.rA a.rc W (ha.rd.since hW) rfl (by omega))
    have HY := Lib.hid (fun W (hW : Fr No w W) => refOf4_any a.p.wt a.p.wt.length a.wA a.wc W (ha.wt.since hW) rfl (by omega))
    have HZ := Lib.hid (fun W (hW : Fr No w W) => refOf4_any b.p.rd b.p.rd.length b.rA b.rc W (hb.rd.since hW) rfl (by omega))
    have HW := Lib.hid (fun W (hW : Fr No w W) => refOf4_any b.p.wt b.p.wt.length b.wA b.wc W (hb.wt.since hW) rfl (by omega))
    have HC1 := Lib.hid (fun W (hW : Fr No w W) => conflict_any a b W (ha.since hW) (hb.since hW) ⟨by omega, by omega⟩ ⟨by omega, by omega⟩)
    have HC2 := Lib.hid (fun W (hW : Fr No w W) => conflict_any b a W (hb.since hW) (ha.since hW) ⟨by omega, by omega⟩ ⟨by omega, by omega⟩)
    rw [conf_comm a b] at HC2
    have Hcw := Lib.hid (conf_want a b)
    unfold Otc.kr Otc.kw at Hcw
    have g1 : decide ((a.p.rd.length : Int) > 30) = false := decide_eq_false (by omega)
    have g2 : decide ((a.p.wt.length : Int) > 30) = false := decide_eq_false (by omega)
    have g3 : decide ((b.p.rd.length : Int) > 30) = false := decide_eq_false (by omega)
    have g4 : decide ((b.p.wt.length : Int) > 30) = false := decide_eq_false (by omega)
    unfold Otc.agg at HC1 HC2 ⊢
    generalize conf a b = cf at *
    obtain ⟨kx, hkx⟩ : ∃ kx, keysOf a.p.rd = kx := ⟨_, rfl⟩
    obtain ⟨ky, hky⟩ : ∃ ky, keysOf a.p.wt = ky := ⟨_, rfl⟩
    obtain ⟨kz, hkz⟩ : ∃ kz, keysOf b.p.rd = kz := ⟨_, rfl⟩
    obtain ⟨kw, hkw⟩ : ∃ kw, keysOf b.p.wt = kw := ⟨_, rfl⟩
    rw [hkx] at HX Hcw
    rw [hky] at HY Hcw
    rw [hkz] at HZ Hcw
    rw [hkw] at HW Hcw
    clear ha hb f0 l1 l2 l3 l4 hkx hky hkz hkw
    generalize a.p.code = cda at *
    generalize a.p.at_ = ata at *
    generalize a.p.r 0 = r0a at *
    generalize a.p.r 1 = r1a at *
    generalize a.p.r 2 = r2a at *
    generalize a.p.r 3 = r3a at *
    generalize a.p.rd.length = na at *
    generalize a.p.wt.length = ma at *
    generalize a.p.ch.length = la at *
    generalize a.rA = Ra at *
    generalize a.wA = Wa at *
    generalize a.cA = Ca at *
    generalize a.rc = rca at *
    generalize a.wc = wca at *
    generalize a.cc = cca at *
    generalize b.p.code = cdb at *
    generalize b.p.at_ = atb at *
    generalize b.p.r 0 = r0b at *
    generalize b.p.r 1 = r1b at *
    generalize b.p.r 2 = r2b at *
    generalize b.p.r 3 = r3b at *
    generalize b.p.rd.length = nb at *
    generalize b.p.wt.length = mb at *
    generalize b.p.ch.length = lb at *
    generalize b.rA = Rb at *
    generalize b.wA = Wb at *
    generalize b.cA = Cb at *
    generalize b.rc = rcb at *
    generalize b.wc = wcb at *
    generalize b.cc = ccb at *
    obtain ⟨m1, hm1⟩ : ∃ m, meets ky kz = m := ⟨_, rfl⟩
    obtain ⟨m2, hm2⟩ : ∃ m, meets ky kw = m := ⟨_, rfl⟩
    obtain ⟨m3, hm3⟩ : ∃ m, meets kx kw = m := ⟨_, rfl⟩
    rw [hm1, hm2, hm3] at Hcw
    have Hm1 := Lib.hid hm1
    have Hm2 := Lib.hid hm2
    have Hm3 := Lib.hid hm3
    clear hm1 hm2 hm3
    go_enter Tryz.func5, Tryz.ntmps5
    go_wp2_with fail
    refine (Hal.out _).mono ?_
    rintro e w1 ⟨rfl, f1⟩
    have F1 := Lib.hid f1
    have uai := HbA.out _ (f1)
    have a0i := uai.cell 0
    have a1i := uai.cell 1
    have a2i := uai.cell 2
    have a3i := uai.cell 3
    have a4i := uai.cell 4
    have a5i := uai.cell 5
    have a6i := uai.cell 6
    have a7i := uai.cell 7
    have a8i := uai.cell 8
    simp only [List.getElem?_toArray, List.getElem?_cons_zero, List.getElem?_cons_succ] at a0i a1i a2i a3i a4i a5i a6i a7i a8i
    have ubi := HbB.out _ (f1)
    have b0i := ubi.cell 0
    have b1i := ubi.cell 1
    have b2i := ubi.cell 2
    have b3i := ubi.cell 3
    have b4i := ubi.cell 4
    have b5i := ubi.cell 5
    have b6i := ubi.cell 6
    have b7i := ubi.cell 7
    have b8i := ubi.cell 8
    simp only [List.getElem?_toArray, List.getElem?_cons_zero, List.getElem?_cons_succ] at b0i b1i b2i b3i b4i b5i b6i b7i b8i
    clear f1
    go_wp2_with fail
    refine wp_region_held_drew (S := fun w' => w'.cell? ⟨q, 6, none⟩ = some (.slice Ra na rca) ∧ w'.cell? ⟨q, 7, none⟩ = some (.slice Wa ma wca) ∧ w'.cell? ⟨q + 1, 6, none⟩ = some (.slice Rb nb rcb) ∧ w'.cell? ⟨q + 1, 7, none⟩ = some (.slice Wb mb wcb)) (by kernel_rfl) (⟨a6i, a7i, b6i, b7i⟩) (fun hHeld => ?_)
    refine any_take 34 (.pointer (some ⟨q, 6, none⟩)) (i := 0) rfl rfl (by kernel_rfl) (by kernel_rfl) (by kernel_rfl) (fun _ _ _ h => h) (by rfl) (by intro w hSw; (try dsimp only at hSw); go_simp; try with_reducible rfl) (by assumption) ?_
    simp only [Act.put, List.setIfInBounds_toArray, List.set_cons_zero, List.set_cons_succ]
    refine any_take 35 (.slice Ra na rca) (i := 1) rfl rfl (by kernel_rfl) (by kernel_rfl) (by kernel_rfl) (fun _ _ _ h => h) (by rfl) (by intro w hSw; (try dsimp only at hSw); go_simp; try with_reducible rfl) (by assumption) ?_
    simp only [Act.put, List.setIfInBounds_toArray, List.set_cons_zero, List.set_cons_succ]
    refine any_take 37 (.pointer (some ⟨q, 7, none⟩)) (i := 3) rfl rfl (by kernel_rfl) (by kernel_rfl) (by kernel_rfl) (fun _ _ _ h => h) (by rfl) (by intro w hSw; (try dsimp only at hSw); go_simp; try with_reducible rfl) (by assumption) ?_
    simp only [Act.put, List.setIfInBounds_toArray, List.set_cons_zero, List.set_cons_succ]
    refine any_take 38 (.slice Wa ma wca) (i := 4) rfl rfl (by kernel_rfl) (by kernel_rfl) (by kernel_rfl) (fun _ _ _ h => h) (by rfl) (by intro w hSw; (try dsimp only at hSw); go_simp; try with_reducible rfl) (by assumption) ?_
    simp only [Act.put, List.setIfInBounds_toArray, List.set_cons_zero, List.set_cons_succ]
    refine any_take 40 (.pointer (some ⟨q + 1, 6, none⟩)) (i := 6) rfl rfl (by kernel_rfl) (by kernel_rfl) (by kernel_rfl) (fun _ _ _ h => h) (by rfl) (by intro w hSw; (try dsimp only at hSw); go_simp; try with_reducible rfl) (by assumption) ?_
    simp only [Act.put, List.setIfInBounds_toArray, List.set_cons_zero, List.set_cons_succ]
    refine any_take 41 (.slice Rb nb rcb) (i := 7) rfl rfl (by kernel_rfl) (by kernel_rfl) (by kernel_rfl) (fun _ _ _ h => h) (by rfl) (by intro w hSw; (try dsimp only at hSw); go_simp; try with_reducible rfl) (by assumption) ?_
    simp only [Act.put, List.setIfInBounds_toArray, List.set_cons_zero, List.set_cons_succ]
    refine any_take 43 (.pointer (some ⟨q + 1, 7, none⟩)) (i := 9) rfl rfl (by kernel_rfl) (by kernel_rfl) (by kernel_rfl) (fun _ _ _ h => h) (by rfl) (by intro w hSw; (try dsimp only at hSw); go_simp; try with_reducible rfl) (by assumption) ?_
    simp only [Act.put, List.setIfInBounds_toArray, List.set_cons_zero, List.set_cons_succ]
    refine any_take 44 (.slice Wb mb wcb) (i := 10) rfl rfl (by kernel_rfl) (by kernel_rfl) (by kernel_rfl) (fun _ _ _ h => h) (by rfl) (by intro w hSw; (try dsimp only at hSw); go_simp; try with_reducible rfl) (by assumption) ?_
    simp only [Act.put, List.setIfInBounds_toArray, List.set_cons_zero, List.set_cons_succ]
    refine wpAnyH_ready (rs := [2]) (by kernel_rfl) (by simp) ?_
    refine AllReadyH.cons rfl (fun K' hK => ?_) AllReadyH.nil
    go_simp
    go_at_call 20
    refine (HX.out _ (HF0.out.trans' (Fr.refl No W0 |>.trans' F1.out (fun _ _ e => e) |>.drew) (fun _ _ e => e))).mono ?_
    rintro e' v0 ⟨p0, rfl, hb0, -, e0⟩
    have E0 : Fr No W0 v0 := (Fr.refl No W0 |>.trans' F1.out (fun _ _ e => e) |>.drew).trans' e0 (fun _ _ e => e)
    have uaj0 := HbA.out _ (E0)
    have a6j0 := uaj0.cell 6
    have a7j0 := uaj0.cell 7
    simp only [List.getElem?_toArray, List.getElem?_cons_zero, List.getElem?_cons_succ] at a6j0 a7j0
    have ubj0 := HbB.out _ (E0)
    have b6j0 := ubj0.cell 6
    have b7j0 := ubj0.cell 7
    simp only [List.getElem?_toArray, List.getElem?_cons_zero, List.getElem?_cons_succ] at b6j0 b7j0
    try dsimp only
    refine hK.out _ _ ⟨a6j0, a7j0, b6j0, b7j0⟩ (fun hHeld => ?_)
    clear hK
    try simp only [Act.put, List.setIfInBounds_toArray, List.set_cons_zero, List.set_cons_succ]
    refine wpAnyH_ready (rs := [5]) (by kernel_rfl) (by simp) ?_
    refine AllReadyH.cons rfl (fun K' hK => ?_) AllReadyH.nil
    go_simp
    go_at_call 20
    refine (HY.out _ (HF0.out.trans' E0 (fun _ _ e => e))).mono ?_
    rintro e' v1 ⟨p1, rfl, hb1, -, e1⟩
    have E1 : Fr No W0 v1 := E0.trans' e1 (fun _ _ e => e)
    have uaj1 := HbA.out _ (E1)
    have a6j1 := uaj1.cell 6
    have a7j1 := uaj1.cell 7
    simp only [List.getElem?_toArray, List.getElem?_cons_zero, List.getElem?_cons_succ] at a6j1 a7j1
    have ubj1 := HbB.out _ (E1)
    have b6j1 := ubj1.cell 6
    have b7j1 := ubj1.cell 7
    simp only [List.getElem?_toArray, List.getElem?_cons_zero, List.getElem?_cons_succ] at b6j1 b7j1
    try dsimp only
    refine hK.out _ _ ⟨a6j1, a7j1, b6j1, b7j1⟩ (fun hHeld => ?_)
    clear hK
    try simp only [Act.put, List.setIfInBounds_toArray, List.set_cons_zero, List.set_cons_succ]
    refine wpAnyH_ready (rs := [8]) (by kernel_rfl) (by simp) ?_
    refine AllReadyH.cons rfl (fun K' hK => ?_) AllReadyH.nil
    go_simp
    go_at_call 20
    refine (HZ.out _ (HF0.out.trans' E1 (fun _ _ e => e))).mono ?_
    rintro e' v2 ⟨p2, rfl, hb2, -, e2⟩
    have E2 : Fr No W0 v2 := E1.trans' e2 (fun _ _ e => e)
    have uaj2 := HbA.out _ (E2)
    have a6j2 := uaj2.cell 6
    have a7j2 := uaj2.cell 7
    simp only [List.getElem?_toArray, List.getElem?_cons_zero, List.getElem?_cons_succ] at a6j2 a7j2
    have ubj2 := HbB.out _ (E2)
    have b6j2 := ubj2.cell 6
    have b7j2 := ubj2.cell 7
    simp only [List.getElem?_toArray, List.getElem?_cons_zero, List.getElem?_cons_succ] at b6j2 b7j2
    try dsimp only
    refine hK.out _ _ ⟨a6j2, a7j2, b6j2, b7j2⟩ (fun hHeld => ?_)
    clear hK
    try simp only [Act.put, List.setIfInBounds_toArray, List.set_cons_zero, List.set_cons_succ]
    refine wpAnyH_ready (rs := [11]) (by kernel_rfl) (by simp) ?_
    refine AllReadyH.cons rfl (fun K' hK => ?_) AllReadyH.nil
    go_simp
    go_at_call 20
    refine (HW.out _ (HF0.out.trans' E2 (fun _ _ e => e))).mono ?_
    rintro e' v3 ⟨p3, rfl, hb3, -, e3⟩
    have E3 : Fr No W0 v3 := E2.trans' e3 (fun _ _ e => e)
    have uaj3 := HbA.out _ (E3)
    have a6j3 := uaj3.cell 6
    have a7j3 := uaj3.cell 7
    simp only [List.getElem?_toArray, List.getElem?_cons_zero, List.getElem?_cons_succ] at a6j3 a7j3
    have ubj3 := HbB.out _ (E3)
    have b6j3 := ubj3.cell 6
    have b7j3 := ubj3.cell 7
    simp only [List.getElem?_toArray, List.getElem?_cons_zero, List.getElem?_cons_succ] at b6j3 b7j3
    try dsimp only
    refine hK.out _ _ ⟨a6j3, a7j3, b6j3, b7j3⟩ (fun hHeld => ?_)
    clear hK
    try simp only [Act.put, List.setIfInBounds_toArray, List.set_cons_zero, List.set_cons_succ]
    refine any_take 5 (.pointer (some ⟨p0, 0, none⟩)) (i := 12) rfl rfl (by kernel_rfl) (by kernel_rfl) (by kernel_rfl) (fun _ _ _ h => h) (by rfl) (by intro w hSw; (try dsimp only at hSw); go_simp; try with_reducible rfl) (by assumption) ?_
    simp only [Act.put, List.setIfInBounds_toArray, List.set_cons_zero, List.set_cons_succ]
    refine any_take 6 (.pointer (some ⟨p1, 0, none⟩)) (i := 13) rfl rfl (by kernel_rfl) (by kernel_rfl) (by kernel_rfl) (fun _ _ _ h => h) (by rfl) (by intro w hSw; (try dsimp only at hSw); go_simp; try with_reducible rfl) (by assumption) ?_
    simp only [Act.put, List.setIfInBounds_toArray, List.set_cons_zero, List.set_cons_succ]
    refine any_take 7 (.pointer (some ⟨p2, 0, none⟩)) (i := 14) rfl rfl (by kernel_rfl) (by kernel_rfl) (by kernel_rfl) (fun _ _ _ h => h) (by rfl) (by intro w hSw; (try dsimp only at hSw); go_simp; try with_reducible rfl) (by assumption) ?_
    simp only [Act.put, List.setIfInBounds_toArray, List.set_cons_zero, List.set_cons_succ]
    refine any_take 8 (.pointer (some ⟨p3, 0, none⟩)) (i := 15) rfl rfl (by kernel_rfl) (by kernel_rfl) (by kernel_rfl) (fun _ _ _ h => h) (by rfl) (by intro w hSw; (try dsimp only at hSw); go_simp; try with_reducible rfl) (by assumption) ?_
    simp only [Act.put, List.setIfInBounds_toArray, List.set_cons_zero, List.set_cons_succ]
    refine wpAnyH_done (by kernel_rfl) ?_ _
    clear hHeld
    have B0 := Lib.hid (((hb0.fr e1 (fun e => e)).fr e2 (fun e => e)).fr e3 (fun e => e))
    have B1 := Lib.hid ((hb1.fr e2 (fun e => e)).fr e3 (fun e => e))
    have B2 := Lib.hid (hb2.fr e3 (fun e => e))
    have B3 := Lib.hid hb3
    have M1 := Lib.hid (refMeet4_any p1 p2 _ _ v3 B1.out B2.out)
    have M2 := Lib.hid (refMeet4_any p1 p3 _ _ v3 B1.out B3.out)
    have M3 := Lib.hid (refMeet4_any p0 p3 _ _ v3 B0.out B3.out)
    rw [Hm1.out] at M1
    rw [Hm2.out] at M2
    rw [Hm3.out] at M3
    have HE3 := Lib.hid E3
    clear uaj0 a6j0 a7j0 ubj0 b6j0 b7j0
    clear uaj1 a6j1 a7j1 ubj1 b6j1 b7j1
    clear uaj2 a6j2 a7j2 ubj2 b6j2 b7j2
    clear uaj3 a6j3 a7j3 ubj3 b6j3 b7j3
    clear uai a0i a1i a2i a3i a4i a5i a6i a7i a8i ubi b0i b1i b2i b3i b4i b5i b6i b7i b8i
    clear hb0 hb1 hb2 hb3 e0 e1 e2 e3 E0 E1 E2 E3 B0 B1 B2 B3 HX HY HZ HW F1 Hm1 Hm2 Hm3
    have uak := HbA.out _ (HE3.out)
    have a0k := uak.cell 0
    have a1k := uak.cell 1
    have a2k := uak.cell 2
    have a3k := uak.cell 3
    have a4k := uak.cell 4
    have a5k := uak.cell 5
    have a6k := uak.cell 6
    have a7k := uak.cell 7
    have a8k := uak.cell 8
    simp only [List.getElem?_toArray, List.getElem?_cons_zero, List.getElem?_cons_succ] at a0k a1k a2k a3k a4k a5k a6k a7k a8k
    have ubk := HbB.out _ (HE3.out)
    have b0k := ubk.cell 0
    have b1k := ubk.cell 1
    have b2k := ubk.cell 2
    have b3k := ubk.cell 3
    have b4k := ubk.cell 4
    have b5k := ubk.cell 5
    have b6k := ubk.cell 6
    have b7k := ubk.cell 7
    have b8k := ubk.cell 8
    simp only [List.getElem?_toArray, List.getElem?_cons_zero, List.getElem?_cons_succ] at b0k b1k b2k b3k b4k b5k b6k b7k b8k
    cases m1
    · cases m2
      · cases m3
        · have hcf : cf = false := by rw [Hcw.out]; rfl
          subst hcf
          go_wp2_with fail
          refine (M1.out).mono ?_
          rintro e x0 ⟨rfl, rfl⟩
          go_wp2_with fail
          refine (M2.out).mono ?_
          rintro e x1 ⟨rfl, rfl⟩
          go_wp2_with fail
          refine (M3.out).mono ?_
          rintro e x2 ⟨rfl, rfl⟩
          go_wp2_with fail
          refine (HC1.out _ (HF0.out.trans' HE3.out (fun _ _ e => e))).mono ?_
          rintro e y1 ⟨rfl, d1⟩
          have D1 := Lib.hid (HE3.out.trans' d1 (fun _ _ e => e))
          clear uak a0k a1k a2k a3k a4k a5k a6k a7k a8k ubk b0k b1k b2k b3k b4k b5k b6k b7k b8k
          clear d1
          have uam := HbA.out _ (D1.out)
          have a0m := uam.cell 0
          have a1m := uam.cell 1
          have a2m := uam.cell 2
          have a3m := uam.cell 3
          have a4m := uam.cell 4
          have a5m := uam.cell 5
          have a6m := uam.cell 6
          have a7m := uam.cell 7
          have a8m := uam.cell 8
          simp only [List.getElem?_toArray, List.getElem?_cons_zero, List.getElem?_cons_succ] at a0m a1m a2m a3m a4m a5m a6m a7m a8m
          have ubm := HbB.out _ (D1.out)
          have b0m := ubm.cell 0
          have b1m := ubm.cell 1
          have b2m := ubm.cell 2
          have b3m := ubm.cell 3
          have b4m := ubm.cell 4
          have b5m := ubm.cell 5
          have b6m := ubm.cell 6
          have b7m := ubm.cell 7
          have b8m := ubm.cell 8
          simp only [List.getElem?_toArray, List.getElem?_cons_zero, List.getElem?_cons_succ] at b0m b1m b2m b3m b4m b5m b6m b7m b8m
          go_wp2_with fail
          refine (HC2.out _ (HF0.out.trans' D1.out (fun _ _ e => e))).mono ?_
          rintro e y2 ⟨rfl, d2⟩
          go_wp2
          go_ret
          exact ⟨by simp, (HF0.out.trans' D1.out (fun _ _ e => e)).trans' d2 (fun _ _ e => e)⟩
        · have hcf : cf = true := by rw [Hcw.out]; rfl
          subst hcf
          go_wp2_with fail
          refine (M1.out).mono ?_
          rintro e x0 ⟨rfl, rfl⟩
          go_wp2_with fail
          refine (M2.out).mono ?_
          rintro e x1 ⟨rfl, rfl⟩
          go_wp2_with fail
          refine (M3.out).mono ?_
          rintro e x2 ⟨rfl, rfl⟩
          go_wp2_with fail
          refine (HC1.out _ (HF0.out.trans' HE3.out (fun _ _ e => e))).mono ?_
          rintro e y1 ⟨rfl, d1⟩
          have D1 := Lib.hid (HE3.out.trans' d1 (fun _ _ e => e))
          clear uak a0k a1k a2k a3k a4k a5k a6k a7k a8k ubk b0k b1k b2k b3k b4k b5k b6k b7k b8k
          clear d1
          have uam := HbA.out _ (D1.out)
          have a0m := uam.cell 0
          have a1m := uam.cell 1
          have a2m := uam.cell 2
          have a3m := uam.cell 3
          have a4m := uam.cell 4
          have a5m := uam.cell 5
          have a6m := uam.cell 6
          have a7m := uam.cell 7
          have a8m := uam.cell 8
          simp only [List.getElem?_toArray, List.getElem?_cons_zero, List.getElem?_cons_succ] at a0m a1m a2m a3m a4m a5m a6m a7m a8m
          have ubm := HbB.out _ (D1.out)
          have b0m := ubm.cell 0
          have b1m := ubm.cell 1
          have b2m := ubm.cell 2
          have b3m := ubm.cell 3
          have b4m := ubm.cell 4
          have b5m := ubm.cell 5
          have b6m := ubm.cell 6
          have b7m := ubm.cell 7
          have b8m := ubm.cell 8
          simp only [List.getElem?_toArray, List.getElem?_cons_zero, List.getElem?_cons_succ] at b0m b1m b2m b3m b4m b5m b6m b7m b8m
          go_wp2_with fail
          refine (HC2.out _ (HF0.out.trans' D1.out (fun _ _ e => e))).mono ?_
          rintro e y2 ⟨rfl, d2⟩
          go_wp2
          go_ret
          exact ⟨by simp, (HF0.out.trans' D1.out (fun _ _ e => e)).trans' d2 (fun _ _ e => e)⟩
      · have hcf : cf = true := by rw [Hcw.out]; rfl
        subst hcf
        go_wp2_with fail
        refine (M1.out).mono ?_
        rintro e x0 ⟨rfl, rfl⟩
        go_wp2_with fail
        refine (M2.out).mono ?_
        rintro e x1 ⟨rfl, rfl⟩
        go_wp2_with fail
        refine (HC1.out _ (HF0.out.trans' HE3.out (fun _ _ e => e))).mono ?_
        rintro e y1 ⟨rfl, d1⟩
        have D1 := Lib.hid (HE3.out.trans' d1 (fun _ _ e => e))
        clear uak a0k a1k a2k a3k a4k a5k a6k a7k a8k ubk b0k b1k b2k b3k b4k b5k b6k b7k b8k
        clear d1
        have uam := HbA.out _ (D1.out)
        have a0m := uam.cell 0
        have a1m := uam.cell 1
        have a2m := uam.cell 2
        have a3m := uam.cell 3
        have a4m := uam.cell 4
        have a5m := uam.cell 5
        have a6m := uam.cell 6
        have a7m := uam.cell 7
        have a8m := uam.cell 8
        simp only [List.getElem?_toArray, List.getElem?_cons_zero, List.getElem?_cons_succ] at a0m a1m a2m a3m a4m a5m a6m a7m a8m
        have ubm := HbB.out _ (D1.out)
        have b0m := ubm.cell 0
        have b1m := ubm.cell 1
        have b2m := ubm.cell 2
        have b3m := ubm.cell 3
        have b4m := ubm.cell 4
        have b5m := ubm.cell 5
        have b6m := ubm.cell 6
        have b7m := ubm.cell 7
        have b8m := ubm.cell 8
        simp only [List.getElem?_toArray, List.getElem?_cons_zero, List.getElem?_cons_succ] at b0m b1m b2m b3m b4m b5m b6m b7m b8m
        go_wp2_with fail
        refine (HC2.out _ (HF0.out.trans' D1.out (fun _ _ e => e))).mono ?_
        rintro e y2 ⟨rfl, d2⟩
        go_wp2
        go_ret
        exact ⟨by simp, (HF0.out.trans' D1.out (fun _ _ e => e)).trans' d2 (fun _ _ e => e)⟩
    · have hcf : cf = true := by rw [Hcw.out]; rfl
      subst hcf
      go_wp2_with fail
      refine (M1.out).mono ?_
      rintro e x0 ⟨rfl, rfl⟩
      go_wp2_with fail
      refine (HC1.out _ (HF0.out.trans' HE3.out (fun _ _ e => e))).mono ?_
      rintro e y1 ⟨rfl, d1⟩
      have D1 := Lib.hid (HE3.out.trans' d1 (fun _ _ e => e))
      clear uak a0k a1k a2k a3k a4k a5k a6k a7k a8k ubk b0k b1k b2k b3k b4k b5k b6k b7k b8k
      clear d1
      have uam := HbA.out _ (D1.out)
      have a0m := uam.cell 0
      have a1m := uam.cell 1
      have a2m := uam.cell 2
      have a3m := uam.cell 3
      have a4m := uam.cell 4
      have a5m := uam.cell 5
      have a6m := uam.cell 6
      have a7m := uam.cell 7
      have a8m := uam.cell 8
      simp only [List.getElem?_toArray, List.getElem?_cons_zero, List.getElem?_cons_succ] at a0m a1m a2m a3m a4m a5m a6m a7m a8m
      have ubm := HbB.out _ (D1.out)
      have b0m := ubm.cell 0
      have b1m := ubm.cell 1
      have b2m := ubm.cell 2
      have b3m := ubm.cell 3
      have b4m := ubm.cell 4
      have b5m := ubm.cell 5
      have b6m := ubm.cell 6
      have b7m := ubm.cell 7
      have b8m := ubm.cell 8
      simp only [List.getElem?_toArray, List.getElem?_cons_zero, List.getElem?_cons_succ] at b0m b1m b2m b3m b4m b5m b6m b7m b8m
      go_wp2_with fail
      refine (HC2.out _ (HF0.out.trans' D1.out (fun _ _ e => e))).mono ?_
      rintro e y2 ⟨rfl, d2⟩
      go_wp2
      go_ret
      exact ⟨by simp, (HF0.out.trans' D1.out (fun _ _ e => e)).trans' d2 (fun _ _ e => e)⟩
  · by_cases l1 : a.p.rd.length ≤ 30
    · by_cases l2 : a.p.wt.length ≤ 30
      · by_cases l3 : b.p.rd.length ≤ 30
        · by_cases l4 : b.p.wt.length ≤ 30
          · exact absurd ⟨⟨l1, l2⟩, l3, l4⟩ hsm
          · have g1 : decide ((a.p.rd.length : Int) > 30) = false := decide_eq_false (by omega)
            have g2 : decide ((a.p.wt.length : Int) > 30) = false := decide_eq_false (by omega)
            have g3 : decide ((b.p.rd.length : Int) > 30) = false := decide_eq_false (by omega)
            have g4 : decide ((b.p.wt.length : Int) > 30) = true := decide_eq_true (by omega)
            unfold Otc.agg
            clear ha hb f0 hsm
            generalize a.p.code = cda at *
            generalize a.p.at_ = ata at *
            generalize a.p.r 0 = r0a at *
            generalize a.p.r 1 = r1a at *
            generalize a.p.r 2 = r2a at *
            generalize a.p.r 3 = r3a at *
            generalize a.p.rd.length = na at *
            generalize a.p.wt.length = ma at *
            generalize a.p.ch.length = la at *
            generalize a.rA = Ra at *
            generalize a.wA = Wa at *
            generalize a.cA = Ca at *
            generalize a.rc = rca at *
            generalize a.wc = wca at *
            generalize a.cc = cca at *
            generalize b.p.code = cdb at *
            generalize b.p.at_ = atb at *
            generalize b.p.r 0 = r0b at *
            generalize b.p.r 1 = r1b at *
            generalize b.p.r 2 = r2b at *
            generalize b.p.r 3 = r3b at *
            generalize b.p.rd.length = nb at *
            generalize b.p.wt.length = mb at *
            generalize b.p.ch.length = lb at *
            generalize b.rA = Rb at *
            generalize b.wA = Wb at *
            generalize b.cA = Cb at *
            generalize b.rc = rcb at *
            generalize b.wc = wcb at *
            generalize b.cc = ccb at *
            go_enter Tryz.func5, Tryz.ntmps5
            go_wp2_with fail
            refine (Hal.out _).mono ?_
            rintro e w1 ⟨rfl, f1⟩
            have uai := HbA.out _ (f1)
            have a6i := uai.cell 6
            have a7i := uai.cell 7
            simp only [List.getElem?_toArray, List.getElem?_cons_zero, List.getElem?_cons_succ] at a6i a7i
            have ubi := HbB.out _ (f1)
            have b6i := ubi.cell 6
            have b7i := ubi.cell 7
            simp only [List.getElem?_toArray, List.getElem?_cons_zero, List.getElem?_cons_succ] at b6i b7i
            have F1 := Lib.hid (HF0.out.trans' f1 (fun _ _ e => e))
            clear f1
            go_wp2
            go_ret
            exact ⟨rfl, F1.out⟩
        · have g1 : decide ((a.p.rd.length : Int) > 30) = false := decide_eq_false (by omega)
          have g2 : decide ((a.p.wt.length : Int) > 30) = false := decide_eq_false (by omega)
          have g3 : decide ((b.p.rd.length : Int) > 30) = true := decide_eq_true (by omega)
          unfold Otc.agg
          clear ha hb f0 hsm
          generalize a.p.code = cda at *
          generalize a.p.at_ = ata at *
          generalize a.p.r 0 = r0a at *
          generalize a.p.r 1 = r1a at *
          generalize a.p.r 2 = r2a at *
          generalize a.p.r 3 = r3a at *
          generalize a.p.rd.length = na at *
          generalize a.p.wt.length = ma at *
          generalize a.p.ch.length = la at *
          generalize a.rA = Ra at *
          generalize a.wA = Wa at *
          generalize a.cA = Ca at *
          generalize a.rc = rca at *
          generalize a.wc = wca at *
          generalize a.cc = cca at *
          generalize b.p.code = cdb at *
          generalize b.p.at_ = atb at *
          generalize b.p.r 0 = r0b at *
          generalize b.p.r 1 = r1b at *
          generalize b.p.r 2 = r2b at *
          generalize b.p.r 3 = r3b at *
          generalize b.p.rd.length = nb at *
          generalize b.p.wt.length = mb at *
          generalize b.p.ch.length = lb at *
          generalize b.rA = Rb at *
          generalize b.wA = Wb at *
          generalize b.cA = Cb at *
          generalize b.rc = rcb at *
          generalize b.wc = wcb at *
          generalize b.cc = ccb at *
          go_enter Tryz.func5, Tryz.ntmps5
          go_wp2_with fail
          refine (Hal.out _).mono ?_
          rintro e w1 ⟨rfl, f1⟩
          have uai := HbA.out _ (f1)
          have a6i := uai.cell 6
          have a7i := uai.cell 7
          simp only [List.getElem?_toArray, List.getElem?_cons_zero, List.getElem?_cons_succ] at a6i a7i
          have ubi := HbB.out _ (f1)
          have b6i := ubi.cell 6
          have b7i := ubi.cell 7
          simp only [List.getElem?_toArray, List.getElem?_cons_zero, List.getElem?_cons_succ] at b6i b7i
          have F1 := Lib.hid (HF0.out.trans' f1 (fun _ _ e => e))
          clear f1
          go_wp2
          go_ret
          exact ⟨rfl, F1.out⟩
      · have g1 : decide ((a.p.rd.length : Int) > 30) = false := decide_eq_false (by omega)
        have g2 : decide ((a.p.wt.length : Int) > 30) = true := decide_eq_true (by omega)
        unfold Otc.agg
        clear ha hb f0 hsm
        generalize a.p.code = cda at *
        generalize a.p.at_ = ata at *
        generalize a.p.r 0 = r0a at *
        generalize a.p.r 1 = r1a at *
        generalize a.p.r 2 = r2a at *
        generalize a.p.r 3 = r3a at *
        generalize a.p.rd.length = na at *
        generalize a.p.wt.length = ma at *
        generalize a.p.ch.length = la at *
        generalize a.rA = Ra at *
        generalize a.wA = Wa at *
        generalize a.cA = Ca at *
        generalize a.rc = rca at *
        generalize a.wc = wca at *
        generalize a.cc = cca at *
        generalize b.p.code = cdb at *
        generalize b.p.at_ = atb at *
        generalize b.p.r 0 = r0b at *
        generalize b.p.r 1 = r1b at *
        generalize b.p.r 2 = r2b at *
        generalize b.p.r 3 = r3b at *
        generalize b.p.rd.length = nb at *
        generalize b.p.wt.length = mb at *
        generalize b.p.ch.length = lb at *
        generalize b.rA = Rb at *
        generalize b.wA = Wb at *
        generalize b.cA = Cb at *
        generalize b.rc = rcb at *
        generalize b.wc = wcb at *
        generalize b.cc = ccb at *
        go_enter Tryz.func5, Tryz.ntmps5
        go_wp2_with fail
        refine (Hal.out _).mono ?_
        rintro e w1 ⟨rfl, f1⟩
        have uai := HbA.out _ (f1)
        have a6i := uai.cell 6
        have a7i := uai.cell 7
        simp only [List.getElem?_toArray, List.getElem?_cons_zero, List.getElem?_cons_succ] at a6i a7i
        have ubi := HbB.out _ (f1)
        have b6i := ubi.cell 6
        have b7i := ubi.cell 7
        simp only [List.getElem?_toArray, List.getElem?_cons_zero, List.getElem?_cons_succ] at b6i b7i
        have F1 := Lib.hid (HF0.out.trans' f1 (fun _ _ e => e))
        clear f1
        go_wp2
        go_ret
        exact ⟨rfl, F1.out⟩
    · have g1 : decide ((a.p.rd.length : Int) > 30) = true := decide_eq_true (by omega)
      unfold Otc.agg
      clear ha hb f0 hsm
      generalize a.p.code = cda at *
      generalize a.p.at_ = ata at *
      generalize a.p.r 0 = r0a at *
      generalize a.p.r 1 = r1a at *
      generalize a.p.r 2 = r2a at *
      generalize a.p.r 3 = r3a at *
      generalize a.p.rd.length = na at *
      generalize a.p.wt.length = ma at *
      generalize a.p.ch.length = la at *
      generalize a.rA = Ra at *
      generalize a.wA = Wa at *
      generalize a.cA = Ca at *
      generalize a.rc = rca at *
      generalize a.wc = wca at *
      generalize a.cc = cca at *
      generalize b.p.code = cdb at *
      generalize b.p.at_ = atb at *
      generalize b.p.r 0 = r0b at *
      generalize b.p.r 1 = r1b at *
      generalize b.p.r 2 = r2b at *
      generalize b.p.r 3 = r3b at *
      generalize b.p.rd.length = nb at *
      generalize b.p.wt.length = mb at *
      generalize b.p.ch.length = lb at *
      generalize b.rA = Rb at *
      generalize b.wA = Wb at *
      generalize b.cA = Cb at *
      generalize b.rc = rcb at *
      generalize b.wc = wcb at *
      generalize b.cc = ccb at *
      go_enter Tryz.func5, Tryz.ntmps5
      go_wp2_with fail
      refine (Hal.out _).mono ?_
      rintro e w1 ⟨rfl, f1⟩
      have uai := HbA.out _ (f1)
      have a6i := uai.cell 6
      have a7i := uai.cell 7
      simp only [List.getElem?_toArray, List.getElem?_cons_zero, List.getElem?_cons_succ] at a6i a7i
      have ubi := HbB.out _ (f1)
      have b6i := ubi.cell 6
      have b7i := ubi.cell 7
      simp only [List.getElem?_toArray, List.getElem?_cons_zero, List.getElem?_cons_succ] at b6i b7i
      have F1 := Lib.hid (HF0.out.trans' f1 (fun _ _ e => e))
      clear f1
      go_wp2
      go_ret
      exact ⟨rfl, F1.out⟩
end Go.Proofs.YthenadijiepmnaaGreat
