/- The law: whether any history is good, its order, its cycle's nodes, are the document's. -/
import Derived.Test.YtdjhdnejeehgnaaGreatDoc16
import Derived.Test.YtdjhdnejeehgnaaGreatAlv16
import Derived.BigQuiet
namespace Go.Proofs.YtdjhdnejeehgnaaGreat
open Go.RowKit

theorem cycT_len (f : Nat → Nat → Bool) (n : Nat) : (cycT f n).length ≤ n := Nat.le_trans (List.length_filter_le _ _) (by simp)
set_option maxRecDepth 100000 in
set_option maxHeartbeats 8000000 in
theorem rsgOrders16_any (x : Ctl) (h : List Ndl) (A : Option Addr) (N c : Nat) (w : World) (hx : Clss w x.cA x.cls) (hs : Nds w A h) (hN : h.length = N) (hNm : N ≤ 9223372036854775807) (hnc : x.cls.length ≤ 9223372036854775807)
  (hal : ∀ W, Fr No w W → Calls Tryz.prog 8 #[] W (Has W true))
  (hgood : great16 x.cls h = false → ∀ W, Fr No w W → Calls Tryz.prog 14 #[x.agg, .slice A N c] W (Has W (goodH x.p (ndsOf h))))
  (hord : great16 x.cls h = false → ∀ W, Fr No w W → Calls Tryz.prog 15 #[x.agg, .slice A N c] W fun e w' => ∃ L lc, e = .returned (.slice L (ordH x.p (ndsOf h)).length lc) ∧ Sl w' w'.heap.size L (nums (ordH x.p (ndsOf h))) ∧ Fr No W w')
  (hcyc : great16 x.cls h = false → ∀ W, Fr No w W → Calls Tryz.prog 16 #[x.agg, .slice A N c] W fun e w' => ∃ L lc, e = .returned (.slice L (cycH x.p (ndsOf h)).length lc) ∧ Sl w' w'.heap.size L (nums (cycH x.p (ndsOf h))) ∧ Fr No W w') :
  Calls Tryz.prog 4 #[x.agg, .slice A N c] w (Has w true) := by
 have hNl : (ndsOf h).length = N := by rw [ndsOf_len, hN]
 have Hal := Lib.hid hal
 have HG := Lib.hid (fun W (hW : Fr No w W) => great16_any x h A N c W (hx.since hW) (hs.since hW) hN hNm hnc)
 have HM := Lib.hid (fun (hg : great16 x.cls h = false) W (hW : Fr No w W) => mayD16 x h A N c W (hx.since hW) (hs.since hW) hN (by have := (few_of_great16 hg).2.1; omega) (few_of_great16 hg).2.2)
 have HD := Lib.hid (fun (hg : great16 x.cls h = false) W (hW : Fr No w W) => goodD16 x h A N c W (hx.since hW) (hs.since hW) hN (by have := (few_of_great16 hg).2.1; omega) (few_of_great16 hg).2.2)
 have HC := Lib.hid (fun (hg : great16 x.cls h = false) (hm : mayH x.p (ndsOf h) = true) W (hW : Fr No w W) => show Calls Tryz.prog 18 #[x.agg, .slice A N c] W fun e w' => ∃ L lc, e = .returned (.slice L (cycH x.p (ndsOf h)).length lc) ∧ w'.ownsRow W.heap.size 3 1 (.slice L (cycH x.p (ndsOf h)).length lc) (cycH x.p (ndsOf h)).length (nums (cycH x.p (ndsOf h))) ∧ Fr No W w' by
  unfold cycH
  rw [if_pos hm, hNl]
  exact cycleD16 x h A N c W (hx.since hW) (hs.since hW) hN (few_of_great16 hg).2.2 hm)
 have HO := Lib.hid (fun (hg : great16 x.cls h = false) (hd : goodH x.p (ndsOf h) = true) W (hW : Fr No w W) => show Calls Tryz.prog 19 #[x.agg, .slice A N c] W fun e w' => ∃ L lc, e = .returned (.slice L (ordH x.p (ndsOf h)).length lc) ∧ w'.ownsRow W.heap.size 3 1 (.slice L (ordH x.p (ndsOf h)).length lc) (ordH x.p (ndsOf h)).length (nums (ordH x.p (ndsOf h))) ∧ Fr No W w' by
  unfold ordH
  rw [if_pos hd, hNl, ordT_len]
  unfold goodH at hd
  rw [Bool.and_eq_true] at hd
  exact orderD16 x h A N c W (hx.since hW) (hs.since hW) hN (few_of_great16 hg).2.2 hd.1 hd.2)
 have HPg := Lib.hid hgood
 have HPo := Lib.hid hord
 have HPc := Lib.hid hcyc
 have hon : goodH x.p (ndsOf h) = false → (ordH x.p (ndsOf h)).length = 0 := fun e => by unfold ordH; rw [e]; rfl
 have hcn : mayH x.p (ndsOf h) = false → (cycH x.p (ndsOf h)).length = 0 := fun e => by unfold cycH; rw [e]; rfl
 have hgm : mayH x.p (ndsOf h) = false → goodH x.p (ndsOf h) = false := fun e => by unfold goodH; rw [e]; rfl
 have hol : great16 x.cls h = false → (ordH x.p (ndsOf h)).length ≤ 1048576 := fun hg => by
  have := (few_of_great16 hg).2.1
  unfold ordH
  split
  ·rw [ordT_len, hNl]; omega
  ·exact Nat.zero_le _
 have hcl : great16 x.cls h = false → (cycH x.p (ndsOf h)).length ≤ 1048576 := fun hg => by
  have := (few_of_great16 hg).2.1
  unfold cycH
  split
  ·have := cycT_len (wayB x.p (ndsOf h)) (ndsOf h).length
   omega
  ·exact Nat.zero_le _
 clear hal hgood hord hcyc hNl
 generalize great16 x.cls h = g at *
 generalize mayH x.p (ndsOf h) = r at *
 generalize goodH x.p (ndsOf h) = q at *
 generalize ordH x.p (ndsOf h) = lo at *
 generalize cycH x.p (ndsOf h) = ll at *
 unfold Ctl.agg at HG HM HD HC HO HPg HPo HPc ⊢
 obtain ⟨Z, hZ⟩ : ∃ Z, Z = x.arr := ⟨_, rfl⟩
 rw [← hZ] at HG HM HD HC HO HPg HPo HPc ⊢
 rw [Ctl.arr_eq] at hZ
 obtain ⟨W0, hW0⟩ : ∃ W0, W0 = w.alloc (.cells Z 26) := ⟨_, rfl⟩
 have bZ : Bk W0 w.heap.size 26 Z := by rw [hW0]; exact Bk.made w _ _
 have HF0 : Hid (Fr No w W0) := Lib.hid (by rw [hW0]; exact (Fr.refl _ _).alloc _)
 have HL := Lib.hid (fun V (hV : Fr No w V) (h0 : Fr No W0 V) => show LdO V 26 ⟨w.heap.size, 0, none⟩ (.agg Z) from ld_cat hZ (bZ.fr h0 (fun e => e)))
 have hwe := hW0.symm
 clear hZ hW0 bZ hx hs hN
 go_enter Tryz.func4, Tryz.ntmps4
 go_wp2_with fail
 refine (Hal.out _ HF0.out).mono ?_
 rintro e w1 ⟨rfl, f1⟩
 have D1 : Hid (Fr No W0 w1) := Lib.hid f1
 have F1 := Lib.hid (HF0.out.trans' f1 (fun _ _ e => e))
 have HLw := Lib.hid (HL.out _ F1.out D1.out)
 clear f1 hwe Hal
 go_wp2_with (first
  | ((with_reducible refine wpl_ld ?_ ?_ HLw.out ?_); (· rfl); (· rfl); simp only [Act.put, szA, szB, szC])
  | ((with_reducible refine wpl_ldg ?_ ?_ HLw.out ?_); (· rfl); (· rfl); simp only [Act.put, szA, szB, szC]))
 refine (HG.out _ F1.out).mono ?_
 rintro e w2 ⟨rfl, f2⟩
 have D2 := Lib.hid (D1.out.trans' f2 (fun _ _ e => e))
 have F2 := Lib.hid (F1.out.trans' f2 (fun _ _ e => e))
 clear f2 HLw HG D1 F1
 cases g
 ·have HLw := Lib.hid (HL.out _ F2.out D2.out)
  have hol2 := Lib.hid (hol rfl)
  have hcl2 := Lib.hid (hcl rfl)
  clear hol hcl
  go_wp2_with (first
   | ((with_reducible refine wpl_ld ?_ ?_ HLw.out ?_); (· rfl); (· rfl); simp only [Act.put, szA, szB, szC])
   | ((with_reducible refine wpl_ldg ?_ ?_ HLw.out ?_); (· rfl); (· rfl); simp only [Act.put, szA, szB, szC]))
  refine (HD.out (by first | rfl | trivial) _ F2.out).mono ?_
  rintro e w3 ⟨rfl, f3⟩
  have D3 := Lib.hid (D2.out.trans' f3 (fun _ _ e => e))
  have F3 := Lib.hid (F2.out.trans' f3 (fun _ _ e => e))
  clear f3 HLw D2 F2
  have HLw := Lib.hid (HL.out _ F3.out D3.out)
  go_wp2_with (first
   | ((with_reducible refine wpl_ld ?_ ?_ HLw.out ?_); (· rfl); (· rfl); simp only [Act.put, szA, szB, szC])
   | ((with_reducible refine wpl_ldg ?_ ?_ HLw.out ?_); (· rfl); (· rfl); simp only [Act.put, szA, szB, szC]))
  refine (HPg.out (by first | rfl | trivial) _ F3.out).mono ?_
  rintro e w4 ⟨rfl, f4⟩
  have D4 := Lib.hid (D3.out.trans' f4 (fun _ _ e => e))
  have F4 := Lib.hid (F3.out.trans' f4 (fun _ _ e => e))
  clear f4 HLw D3 F3
  have HLw := Lib.hid (HL.out _ F4.out D4.out)
  clear HD HPg
  cases r
  ·obtain rfl := hgm rfl
   have hon2 := hon rfl
   have hcn2 := hcn rfl
   rw [hon2] at HPo
   rw [hcn2] at HPc
   clear hon hcn hgm hon2 hcn2 HC HO hol2 hcl2
   go_wp2_with (first
    | ((with_reducible refine wpl_ld ?_ ?_ HLw.out ?_); (· rfl); (· rfl); simp only [Act.put, szA, szB, szC])
    | ((with_reducible refine wpl_ldg ?_ ?_ HLw.out ?_); (· rfl); (· rfl); simp only [Act.put, szA, szB, szC]))
   refine (HM.out (by first | rfl | trivial) _ F4.out).mono ?_
   rintro e w5 ⟨rfl, f5⟩
   have D5 := Lib.hid (D4.out.trans' f5 (fun _ _ e => e))
   have F5 := Lib.hid (F4.out.trans' f5 (fun _ _ e => e))
   clear f5 HLw D4 F4
   have HLw := Lib.hid (HL.out _ F5.out D5.out)
   go_wp2_with (first
    | ((with_reducible refine wpl_ld ?_ ?_ HLw.out ?_); (· rfl); (· rfl); simp only [Act.put, szA, szB, szC])
    | ((with_reducible refine wpl_ldg ?_ ?_ HLw.out ?_); (· rfl); (· rfl); simp only [Act.put, szA, szB, szC]))
   refine (HPo.out (by first | rfl | trivial) _ F5.out).mono ?_
   rintro e w6 ⟨L, Lc, rfl, hL, f6⟩
   have D6 := Lib.hid (D5.out.trans' f6 (fun _ _ e => e))
   have F6 := Lib.hid (F5.out.trans' f6 (fun _ _ e => e))
   clear f6 HLw D5 F5 hL
   have HLw := Lib.hid (HL.out _ F6.out D6.out)
   go_wp2_with (first
    | ((with_reducible refine wpl_ld ?_ ?_ HLw.out ?_); (· rfl); (· rfl); simp only [Act.put, szA, szB, szC])
    | ((with_reducible refine wpl_ldg ?_ ?_ HLw.out ?_); (· rfl); (· rfl); simp only [Act.put, szA, szB, szC]))
   refine (HPc.out (by first | rfl | trivial) _ F6.out).mono ?_
   rintro e w7 ⟨M, Mc, rfl, hM, f7⟩
   have D7 := Lib.hid (D6.out.trans' f7 (fun _ _ e => e))
   have F7 := Lib.hid (F6.out.trans' f7 (fun _ _ e => e))
   clear f7 HLw D6 F6 hM
   have HLw := Lib.hid (HL.out _ F7.out D7.out)
   go_wp2
   go_ret
   exact ⟨rfl, F7.out⟩
  ·clear hcn hgm
   have eqq : (q == q) = true := by simp
   go_wp2_with (first
    | ((with_reducible refine wpl_ld ?_ ?_ HLw.out ?_); (· rfl); (· rfl); simp only [Act.put, szA, szB, szC])
    | ((with_reducible refine wpl_ldg ?_ ?_ HLw.out ?_); (· rfl); (· rfl); simp only [Act.put, szA, szB, szC]))
   refine (HM.out (by first | rfl | trivial) _ F4.out).mono ?_
   rintro e w5 ⟨rfl, f5⟩
   have D5 := Lib.hid (D4.out.trans' f5 (fun _ _ e => e))
   have F5 := Lib.hid (F4.out.trans' f5 (fun _ _ e => e))
   clear f5 HLw D4 F4
   have HLw := Lib.hid (HL.out _ F5.out D5.out)
   clear HM
   go_wp2_with fail
   have Dd := Lib.hid (D5.out.trans' ((Fr.refl No w5).drew) (fun _ _ e => e))
   have Fd := Lib.hid (F5.out.trans' ((Fr.refl No w5).drew) (fun _ _ e => e))
   refine wp_region_held_drew (S := fun V => LdO V 26 ⟨w.heap.size, 0, none⟩ (.agg Z)) (by kernel_rfl) (HL.out _ Fd.out Dd.out) (fun hHeld => ?_)
   refine any_tk 35 (.agg Z) (i := 0) rfl rfl (by kernel_rfl) (fun _ _ _ h => h) (by rfl) (by intro w hSw; exact exec_ld rfl hSw) (by assumption) ?_
   simp only [Act.put, szA, szB, szC]
   refine any_tk 36 (.slice A N c) (i := 1) rfl rfl (by kernel_rfl) (fun _ _ _ h => h) (by rfl) (by intro w hSw; (try dsimp only at hSw); go_simp; try with_reducible rfl) (by assumption) ?_
   simp only [Act.put, szA, szB, szC]
   refine any_tk 38 (.agg Z) (i := 3) rfl rfl (by kernel_rfl) (fun _ _ _ h => h) (by rfl) (by intro w hSw; exact exec_ld rfl hSw) (by assumption) ?_
   simp only [Act.put, szA, szB, szC]
   refine any_tk 39 (.slice A N c) (i := 4) rfl rfl (by kernel_rfl) (fun _ _ _ h => h) (by rfl) (by intro w hSw; (try dsimp only at hSw); go_simp; try with_reducible rfl) (by assumption) ?_
   simp only [Act.put, szA, szB, szC]
   refine wpAnyH_ready (rs := [2]) (by kernel_rfl) (by simp) ?_
   refine AllReadyH.cons rfl (fun K' hK => ?_) AllReadyH.nil
   go_simp
   go_at_call 16
   refine (HPc.out (by first | rfl | trivial) _ Fd.out).mono ?_
   rintro e' v1 ⟨L, lc, rfl, hL, g1⟩
   have D8 := Lib.hid (Dd.out.trans' g1 (fun _ _ e => e))
   have F8 := Lib.hid (Fd.out.trans' g1 (fun _ _ e => e))
   have HSL := Lib.hid hL
   clear g1 hL
   dsimp only
   refine hK.out _ _ (HL.out _ F8.out D8.out) (fun hHeld => ?_)
   clear hK
   try simp only [Act.put, szA, szB, szC]
   refine wpAnyH_ready (rs := [5]) (by kernel_rfl) (by simp) ?_
   refine AllReadyH.cons rfl (fun K' hK => ?_) AllReadyH.nil
   go_simp
   go_at_call 18
   refine (HC.out (by first | rfl | trivial) (by first | rfl | trivial) _ F8.out).mono ?_
   rintro e' v2 ⟨M, mc, rfl, hM, g2⟩
   have D9 := Lib.hid (D8.out.trans' g2 (fun _ _ e => e))
   have F9 := Lib.hid (F8.out.trans' g2 (fun _ _ e => e))
   have HSM := Lib.hid (Sl.ofOwn hM)
   have HSL2 := Lib.hid (HSL.out.since g2)
   clear g2 hM HSL
   dsimp only
   refine hK.out _ _ (HL.out _ F9.out D9.out) (fun hHeld => ?_)
   clear hK
   try simp only [Act.put, szA, szB, szC]
   refine wpAnyH_ready (rs := [6]) (by kernel_rfl) (by simp) ?_
   refine AllReadyH.cons rfl (fun K' hK => ?_) AllReadyH.nil
   go_simp
   go_at_call 17
   refine (refInts16_any ll _ _ _ _ _ v2 HSL2.out HSM.out rfl hcl2.out).mono ?_
   rintro e' v3 ⟨rfl, g3⟩
   have D10 := Lib.hid (D9.out.trans' g3 (fun _ _ e => e))
   have F10 := Lib.hid (F9.out.trans' g3 (fun _ _ e => e))
   clear g3 HSL2 HSM
   dsimp only
   refine hK.out _ _ (HL.out _ F10.out D10.out) (fun hHeld => ?_)
   clear hK
   try simp only [Act.put, szA, szB, szC]
   refine any_tk 42 (.bool false) (i := 7) rfl rfl (by kernel_rfl) (fun _ _ _ h => h) (by rfl) (by intro w hSw; (try dsimp only at hSw); go_simp; try with_reducible rfl) (by assumption) ?_
   simp only [Act.put, szA, szB, szC]
   refine wpAnyH_done (by kernel_rfl) ?_ _
   clear hHeld
   clear HPc HC HLw Dd Fd D5 F5 D8 F8 D9 F9
   cases q
   ·have hon2 := hon rfl
    rw [hon2] at HPo
    clear hon hon2 HO
    have HLw := Lib.hid (HL.out _ F10.out D10.out)
    go_wp2_with (first
     | ((with_reducible refine wpl_ld ?_ ?_ HLw.out ?_); (· rfl); (· rfl); simp only [Act.put, szA, szB, szC])
     | ((with_reducible refine wpl_ldg ?_ ?_ HLw.out ?_); (· rfl); (· rfl); simp only [Act.put, szA, szB, szC]))
    refine (HPo.out (by first | rfl | trivial) _ F10.out).mono ?_
    rintro e w11 ⟨L, lc, rfl, hL, f11⟩
    have F11 := Lib.hid (F10.out.trans' f11 (fun _ _ e => e))
    clear f11 hL
    go_wp2
    go_ret
    exact ⟨rfl, F11.out⟩
   ·clear hon
    obtain ⟨w5', hw5⟩ : ∃ V, V = v3 := ⟨_, rfl⟩
    go_wp2_with fail
    have Dd := Lib.hid (D10.out.trans' ((Fr.refl No v3).drew) (fun _ _ e => e))
    have Fd := Lib.hid (F10.out.trans' ((Fr.refl No v3).drew) (fun _ _ e => e))
    refine wp_region_held_drew (S := fun V => LdO V 26 ⟨w.heap.size, 0, none⟩ (.agg Z)) (by kernel_rfl) (HL.out _ Fd.out Dd.out) (fun hHeld => ?_)
    refine any_tk 50 (.agg Z) (i := 0) rfl rfl (by kernel_rfl) (fun _ _ _ h => h) (by rfl) (by intro w hSw; exact exec_ld rfl hSw) (by assumption) ?_
    simp only [Act.put, szA, szB, szC]
    refine any_tk 51 (.slice A N c) (i := 1) rfl rfl (by kernel_rfl) (fun _ _ _ h => h) (by rfl) (by intro w hSw; (try dsimp only at hSw); go_simp; try with_reducible rfl) (by assumption) ?_
    simp only [Act.put, szA, szB, szC]
    refine any_tk 53 (.agg Z) (i := 3) rfl rfl (by kernel_rfl) (fun _ _ _ h => h) (by rfl) (by intro w hSw; exact exec_ld rfl hSw) (by assumption) ?_
    simp only [Act.put, szA, szB, szC]
    refine any_tk 54 (.slice A N c) (i := 4) rfl rfl (by kernel_rfl) (fun _ _ _ h => h) (by rfl) (by intro w hSw; (try dsimp only at hSw); go_simp; try with_reducible rfl) (by assumption) ?_
    simp only [Act.put, szA, szB, szC]
    refine wpAnyH_ready (rs := [2]) (by kernel_rfl) (by simp) ?_
    refine AllReadyH.cons rfl (fun K' hK => ?_) AllReadyH.nil
    go_simp
    go_at_call 15
    refine (HPo.out (by first | rfl | trivial) _ Fd.out).mono ?_
    rintro e' v4 ⟨L, lc, rfl, hL, g1⟩
    have D8 := Lib.hid (Dd.out.trans' g1 (fun _ _ e => e))
    have F8 := Lib.hid (Fd.out.trans' g1 (fun _ _ e => e))
    have HSL := Lib.hid hL
    clear g1 hL
    dsimp only
    refine hK.out _ _ (HL.out _ F8.out D8.out) (fun hHeld => ?_)
    clear hK
    try simp only [Act.put, szA, szB, szC]
    refine wpAnyH_ready (rs := [5]) (by kernel_rfl) (by simp) ?_
    refine AllReadyH.cons rfl (fun K' hK => ?_) AllReadyH.nil
    go_simp
    go_at_call 19
    refine (HO.out (by first | rfl | trivial) (by first | rfl | trivial) _ F8.out).mono ?_
    rintro e' v5 ⟨M, mc, rfl, hM, g2⟩
    have D9 := Lib.hid (D8.out.trans' g2 (fun _ _ e => e))
    have F9 := Lib.hid (F8.out.trans' g2 (fun _ _ e => e))
    have HSM := Lib.hid (Sl.ofOwn hM)
    have HSL2 := Lib.hid (HSL.out.since g2)
    clear g2 hM HSL
    dsimp only
    refine hK.out _ _ (HL.out _ F9.out D9.out) (fun hHeld => ?_)
    clear hK
    try simp only [Act.put, szA, szB, szC]
    refine wpAnyH_ready (rs := [6]) (by kernel_rfl) (by simp) ?_
    refine AllReadyH.cons rfl (fun K' hK => ?_) AllReadyH.nil
    go_simp
    go_at_call 17
    refine (refInts16_any lo _ _ _ _ _ v5 HSL2.out HSM.out rfl hol2.out).mono ?_
    rintro e' v6 ⟨rfl, g3⟩
    have D13 := Lib.hid (D9.out.trans' g3 (fun _ _ e => e))
    have F13 := Lib.hid (F9.out.trans' g3 (fun _ _ e => e))
    clear g3 HSL2 HSM
    dsimp only
    refine hK.out _ _ (HL.out _ F13.out D13.out) (fun hHeld => ?_)
    clear hK
    try simp only [Act.put, szA, szB, szC]
    refine any_tk 4 (.bool true) (i := 7) rfl rfl (by kernel_rfl) (fun _ _ _ h => h) (by rfl) (by intro w hSw; (try dsimp only at hSw); go_simp; try with_reducible rfl) (by assumption) ?_
    simp only [Act.put, szA, szB, szC]
    refine wpAnyH_done (by kernel_rfl) ?_ _
    clear hHeld
    go_wp2
    go_ret
    exact ⟨rfl, F13.out⟩
 ·go_wp2
  go_ret
  exact ⟨rfl, F2.out⟩
theorem lawOrders16 (hG : GoodC16) (x : Ctl) (h : List Ndl) (A : Option Addr) (n c : Nat) (w : World) (hx : Clss w x.cA x.cls) (hs : Nds w A h) (hn : h.length = n) (hnc : n ≤ c) (hnm : n ≤ 9223372036854775807) (hncl : x.cls.length ≤ 9223372036854775807) (hO : OrderC16) (hC : CycleC16) : Calls Tryz.prog 4 #[x.agg, .slice A n c] w (Has w true) := by
 have hI : ∀ W, Fr No w W → great16 x.cls h = false → In16 x h A n c W := fun W hW hg => ⟨hx.since hW, hs.since hW, hn, by have := (few_of_great16 hg).2.1; omega, hnc, (few_of_great16 hg).1, (few_of_great16 hg).2.2⟩
 exact rsgOrders16_any x h A n c w hx hs hn hnm hncl (fun W _ => aliveG16 hG W) (fun hg W hW => hG x h A n c W (hI W hW hg)) (fun hg W hW => hO x h A n c W (hI W hW hg)) (fun hg W hW => hC x h A n c W (hI W hW hg))
end Go.Proofs.YtdjhdnejeehgnaaGreat
