/- The law 'ClassFoot', walked. -/
import Derived.Test.YtnlmhcfkipkegaaFot11
import Derived.Test.YtnlmhcfkipkegaaEqf11
import Derived.Test.YtnlmhcfkipkegaaAlv11
import Derived.Test.YtnlmhcfkipkegaaGrt11
import Derived.Test.YtnlmhcfkipkegaaRmy11
import Derived.Test.YtnlmhcfkipkegaaRead11
import Derived.Deep.RegionHeld3
namespace Go.Proofs.Ytnlmhcfkipkegaa
open Go.RowKit

theorem great_few {c : Cls} (h : greatB c = false) : c.Few := by
  unfold greatB at h
  simp only [Bool.or_eq_false_iff, decide_eq_false_iff_not, List.any_eq_false] at h
  obtain ⟨-, h2, h3, h4⟩ := h
  have h5 : ∀ s ∈ c.steps ++ c.comps, s.code.length ≤ 40 ∧ s.foot.length ≤ 40 := fun s hs => by
    have h6 := h4 s hs
    unfold bigS at h6
    simp only [Bool.or_eq_true, decide_eq_true_eq, not_or] at h6
    omega
  refine ⟨by omega, by omega, fun s hs => ?_, fun s hs => ?_⟩
  · have := h5 s (List.mem_append_left _ hs)
    omega
  · have := h5 s (List.mem_append_right _ hs)
    omega

set_option maxRecDepth 100000 in
set_option maxHeartbeats 8000000 in
theorem classFoot_any (c d : Cls) (gs : List Int) (A2 : Option Addr) (N c2 : Nat) (w : World) (hc : c.Ok w) (hd : d.Ok w) (hs2 : Sl w w.heap.size A2 (ints gs)) (hN : gs.length = N) :
    Calls Try.prog 4 #[c.agg, d.agg, .slice A2 N c2] w (Has w true) := by
  have HG := Lib.hid (fun (W : World) (h : Fr No w W) => great11_any c W (hc.since h))
  have HGd := Lib.hid (fun (W : World) (h : Fr No w W) => great11_any d W (hd.since h))
  have HF := Lib.hid (fun (W : World) (h : Fr No w W) (hg : greatB c = false) (hm : N ≤ 1099511627776) => foot11_any c gs A2 N c2 W (hc.since h) (great_few hg) (hs2.since h) hN hm)
  have HSm := Lib.hid (fun (W : World) (h : Fr No w W) (hg : greatB c = false) => same11_any c d W (hc.since h) (hd.since h) (great_few hg))
  have HSr := Lib.hid (fun (W : World) (h : Fr No w W) (hg : greatB c = false) => refSame11_any c d W (hc.since h) (hd.since h) (great_few hg))
  have HM := Lib.hid (fun (W : World) (h : Fr No w W) => refMay11_any c W (hc.since h))
  have HA := Lib.hid (fun (W : World) (h : Fr No w W) (hm : N ≤ 1099511627776) => refArgs_any gs A2 N c2 W (hs2.since h) hN hm)
  have HR := Lib.hid (fun (fl : Bool) (W : World) (h : Fr No w W) (hg : goodB c.p gs = true) => refFoot11_any fl c gs A2 N c2 W (hc.since h) (ok_steps (c := c) (by unfold goodB at hg; simp only [Bool.and_eq_true] at hg; exact hg.1)).2 (hs2.since h) hN (step_right hg))
  have HGB : Hid (goodB c.p gs = (c.p.ok && (decide ((N : Int) = c.args) && argsOk gs))) := Lib.hid (by unfold goodB; rw [hN]; rfl)
  obtain ⟨gc, hgc⟩ : ∃ b, Hid (greatB c = b) := ⟨_, Lib.hid rfl⟩
  obtain ⟨gd, hgd⟩ : ∃ b, Hid (greatB d = b) := ⟨_, Lib.hid rfl⟩
  obtain ⟨g, hg⟩ : ∃ b, Hid (goodB c.p gs = b) := ⟨_, Lib.hid rfl⟩
  obtain ⟨ok, hok⟩ : ∃ b, Hid (c.p.ok = b) := ⟨_, Lib.hid rfl⟩
  obtain ⟨sm, hsm⟩ : ∃ b, Hid (c.p.same d.p = b) := ⟨_, Lib.hid rfl⟩
  rw [hgc.out] at HG HF HSm HSr
  rw [hgd.out] at HGd
  rw [hsm.out] at HSm HSr
  rw [hok.out] at HM
  rw [hg.out] at HR HF
  rw [hg.out, hok.out] at HGB
  clear hc hd hs2 hN hgc hgd hg hok hsm
  obtain ⟨nm, a, A, ss, sc, U, us, uc, res⟩ := c
  obtain ⟨dn, da, dS, dss, dsc, dU, dus, duc, dr⟩ := d
  unfold Cls.agg at *
  simp only at HG HGd HF HSm HSr HM HR HGB ⊢
  obtain ⟨n, hn⟩ : ∃ n, Hid (n = ss.length) := ⟨_, Lib.hid rfl⟩
  rw [← hn.out] at HG HF HSm HSr HM HR ⊢
  generalize us.length = m at *
  generalize dss.length = dn1 at *
  generalize dus.length = dn2 at *
  clear hn
  obtain ⟨W0, hW0⟩ : ∃ W0, Hid (W0 = (w.alloc (.cells #[.string nm, .int .i64 a, .slice A n sc, .slice U m uc, .bool res] 31)).alloc (.cells #[.string dn, .int .i64 da, .slice dS dn1 dsc, .slice dU dn2 duc, .bool dr] 31)) := ⟨_, Lib.hid rfl⟩
  have F0 : Hid (Fr No w W0) := Lib.hid (by rw [hW0.out]; exact ((Fr.refl _ _).alloc _).alloc _)
  obtain ⟨P, hP⟩ : ∃ P, Hid (P = w.heap.size) := ⟨_, Lib.hid rfl⟩
  obtain ⟨Q, hQ⟩ : ∃ Q, Hid (Q = w.heap.size + 1) := ⟨_, Lib.hid rfl⟩
  have bP : Bk W0 P 31 #[.string nm, .int .i64 a, .slice A n sc, .slice U m uc, .bool res] := by rw [hP.out, hW0.out]; exact (Bk.made w _ _).fr ((Fr.refl No _).alloc _) (fun e => e)
  have bQ : Bk W0 Q 31 #[.string dn, .int .i64 da, .slice dS dn1 dsc, .slice dU dn2 duc, .bool dr] := by
    rw [hQ.out, hW0.out]
    have h := Bk.made (w.alloc (.cells #[.string nm, .int .i64 a, .slice A n sc, .slice U m uc, .bool res] 31)) 31 #[.string dn, .int .i64 da, .slice dS dn1 dsc, .slice dU dn2 duc, .bool dr]
    simpa using h
  have HS : Hid (∀ w', Fr No W0 w' → w'.cell? ⟨P, 0, none⟩ = some (.string nm) ∧ w'.cell? ⟨P, 1, none⟩ = some (.int .i64 a) ∧ w'.cell? ⟨P, 2, none⟩ = some (.slice A n sc) ∧ w'.cell? ⟨P, 3, none⟩ = some (.slice U m uc) ∧ w'.cell? ⟨P, 4, none⟩ = some (.bool res) ∧ w'.cell? ⟨Q, 0, none⟩ = some (.string dn) ∧ w'.cell? ⟨Q, 1, none⟩ = some (.int .i64 da) ∧ w'.cell? ⟨Q, 2, none⟩ = some (.slice dS dn1 dsc) ∧ w'.cell? ⟨Q, 3, none⟩ = some (.slice dU dn2 duc) ∧ w'.cell? ⟨Q, 4, none⟩ = some (.bool dr)) := Lib.hid (fun w' h => by
    have hp := bP.fr h (fun e => e)
    have hq := bQ.fr h (fun e => e)
    exact ⟨hp.cell 0, hp.cell 1, hp.cell 2, hp.cell 3, hp.cell 4, hq.cell 0, hq.cell 1, hq.cell 2, hq.cell 3, hq.cell 4⟩)
  have HL := Lib.hid (fun (V : World) (h : Fr No W0 V) => And.intro (bP.fr h (fun e => e)).lt (bQ.fr h (fun e => e)).lt)
  clear bP bQ
  have C1 := Lib.hid (alive11 W0)
  rw [hW0.out] at C1
  go_enter Try.func4, Try.ntmps4
  go_wp2_with fail
  refine (C1.out).mono ?_
  rintro e w1 ⟨rfl, f1⟩
  rw [← hW0.out] at f1
  rw [← hQ.out, ← hP.out]
  clear C1 hW0 hP hQ
  obtain ⟨k0, k1, k2, k3, k4, l0, l1, l2, l3, l4⟩ := HS.out _ (f1)
  obtain ⟨lp, lq⟩ := HL.out _ (f1)
  have D1 := Lib.hid (HG.out _ (F0.out.trans' f1 (fun _ _ e => e)))
  have H1 := Lib.hid f1
  go_wp2_with fail
  refine (D1.out).mono ?_
  rintro e w2 ⟨rfl, f2⟩
  have H2 := Lib.hid (H1.out.trans' f2 (fun _ _ e => e))
  clear k0 k1 k2 k3 k4 l0 l1 l2 l3 l4 lp lq
  clear f1 f2 D1 H1
  cases gc
  case true =>
    go_wp2
    go_ret
    exact ⟨rfl, F0.out.trans' H2.out (fun _ _ e => e)⟩
  obtain ⟨k0, k1, k2, k3, k4, l0, l1, l2, l3, l4⟩ := HS.out _ (H2.out)
  obtain ⟨lp, lq⟩ := HL.out _ (H2.out)
  have D2 := Lib.hid (HGd.out _ (F0.out.trans' H2.out (fun _ _ e => e)))
  go_wp2_with fail
  refine (D2.out).mono ?_
  rintro e w3 ⟨rfl, f3⟩
  have H3 := Lib.hid (H2.out.trans' f3 (fun _ _ e => e))
  clear k0 k1 k2 k3 k4 l0 l1 l2 l3 l4 lp lq
  clear f3 D2 H2
  cases gd
  case true =>
    go_wp2
    go_ret
    exact ⟨rfl, F0.out.trans' H3.out (fun _ _ e => e)⟩
  by_cases h10 : 10 < N
  · have d0 : decide (10 < (N : Int)) = true := by simp; omega
    go_wp2
    go_ret
    exact ⟨rfl, F0.out.trans' H3.out (fun _ _ e => e)⟩
  have d0 : decide (10 < (N : Int)) = false := by simp; omega
  obtain ⟨k0, k1, k2, k3, k4, l0, l1, l2, l3, l4⟩ := HS.out _ (H3.out)
  obtain ⟨lp, lq⟩ := HL.out _ (H3.out)
  have D3 := Lib.hid (HF.out _ (F0.out.trans' H3.out (fun _ _ e => e)) (by first | rfl | trivial) (by omega))
  go_wp2_with fail
  refine (D3.out).mono ?_
  rintro e w4 ⟨f4, h4⟩
  have H4 := Lib.hid (H3.out.trans' f4 (fun _ _ e => e))
  have hsq : (sm != sm) = false := by simp
  rcases h4 with ⟨hg0, rfl⟩ | ⟨hg0, B1, d1, B2, d2, rfl, s1, s2⟩
  · subst hg0
    clear k0 k1 k2 k3 k4 l0 l1 l2 l3 l4 lp lq
    clear f4 D3 H3
    go_wp2_with fail
    go_cut [34] from 28 to 34 (fun s34 wx => s34 = .bool false ∧ Hid (Fr No w4 wx))
    case first =>
      have gI0 := HS.out _ (H4.out.trans' ((Fr.refl No w4).drew) (fun _ _ e => e))
      go_region_held3 (fun w' => w'.cell? ⟨P, 0, none⟩ = some (.string nm) ∧ w'.cell? ⟨P, 1, none⟩ = some (.int .i64 a) ∧ w'.cell? ⟨P, 2, none⟩ = some (.slice A n sc) ∧ w'.cell? ⟨P, 3, none⟩ = some (.slice U m uc) ∧ w'.cell? ⟨P, 4, none⟩ = some (.bool res) ∧ w'.cell? ⟨Q, 0, none⟩ = some (.string dn) ∧ w'.cell? ⟨Q, 1, none⟩ = some (.int .i64 da) ∧ w'.cell? ⟨Q, 2, none⟩ = some (.slice dS dn1 dsc) ∧ w'.cell? ⟨Q, 3, none⟩ = some (.slice dU dn2 duc) ∧ w'.cell? ⟨Q, 4, none⟩ = some (.bool dr))
        (first | exact gI0 | exact gS | exact gT | go_keep)
        (first
          | (go_at_call 14
             refine (HSm.out _ ((F0.out.trans' H4.out (fun _ _ e => e)).trans' ((Fr.refl No w4).drew) (fun _ _ e => e)) (by first | rfl | trivial)).mono ?_
             rintro e wS ⟨rfl, fS⟩
             have FS : Fr No w4 wS := ((Fr.refl No w4).drew).then0 fS (fun _ h => h.elim)
             have gS := HS.out _ (H4.out.trans' FS (fun _ _ e => e)))
          | (go_at_call 9
             refine (HSr.out _ ((F0.out.trans' H4.out (fun _ _ e => e)).trans' FS (fun _ _ e => e)) (by first | rfl | trivial)).mono ?_
             rintro e wT ⟨rfl, fT⟩
             have FT : Fr No w4 wT := FS.then0 fT (fun _ h => h.elim)
             have gT := HS.out _ (H4.out.trans' FT (fun _ _ e => e))))
      all_goals
        go_wp2
        go_meet
        exact ⟨by first | rfl | rw [hsq], Lib.hid FT⟩
    case rest =>
      obtain ⟨rfl, hfx⟩ := hcut
      have H5 := Lib.hid (H4.out.trans' hfx.out (fun _ _ e => e))
      obtain ⟨k0, k1, k2, k3, k4, l0, l1, l2, l3, l4⟩ := HS.out _ (H5.out)
      obtain ⟨lp, lq⟩ := HL.out _ (H5.out)
      have D5 := Lib.hid (HM.out _ (F0.out.trans' H5.out (fun _ _ e => e)))
      go_wp2_with fail
      refine (D5.out).mono ?_
      rintro e w6 ⟨rfl, f6⟩
      have H6 := Lib.hid (H5.out.trans' f6 (fun _ _ e => e))
      have F6 := Lib.hid (F0.out.trans' H6.out (fun _ _ e => e))
      clear k0 k1 k2 k3 k4 l0 l1 l2 l3 l4 lp lq
      have f46 := Lib.hid (hfx.out.trans' f6 (fun _ _ e => e))
      clear f6 D5 H5 hfx
      cases ok
      · go_wp2
        go_ret
        exact ⟨rfl, F6.out⟩
      by_cases hna : (N : Int) = a
      case neg =>
        have q1 : ((N : Int) != a) = true := by simpa using hna
        clear hna
        obtain ⟨k0, k1, k2, k3, k4, l0, l1, l2, l3, l4⟩ := HS.out _ (H6.out)
        obtain ⟨lp, lq⟩ := HL.out _ (H6.out)
        go_wp2
        go_ret
        exact ⟨rfl, F6.out⟩
      have q1 : ((N : Int) != a) = false := by simpa using hna
      have hao : argsOk gs = false := by
        have h := HGB.out
        rw [decide_eq_true hna] at h
        simpa using h.symm
      have D7 := Lib.hid (HA.out _ F6.out (by omega))
      rw [hao] at D7
      clear hna hao
      obtain ⟨k0, k1, k2, k3, k4, l0, l1, l2, l3, l4⟩ := HS.out _ (H6.out)
      obtain ⟨lp, lq⟩ := HL.out _ (H6.out)
      go_wp2_with fail
      refine (D7.out).mono ?_
      rintro e w7 ⟨rfl, f7⟩
      go_wp2
      go_ret
      exact ⟨rfl, F6.out.trans' f7 (fun _ _ e => e)⟩
  · subst hg0
    have S12 := Lib.hid (And.intro s1 s2)
    clear k0 k1 k2 k3 k4 l0 l1 l2 l3 l4 lp lq
    clear f4 D3 H3 s1 s2
    go_wp2_with fail
    go_cut [34] from 28 to 34 (fun s34 wx => s34 = .bool false ∧ Hid (Fr No w4 wx))
    case first =>
      have gI0 := HS.out _ (H4.out.trans' ((Fr.refl No w4).drew) (fun _ _ e => e))
      go_region_held3 (fun w' => w'.cell? ⟨P, 0, none⟩ = some (.string nm) ∧ w'.cell? ⟨P, 1, none⟩ = some (.int .i64 a) ∧ w'.cell? ⟨P, 2, none⟩ = some (.slice A n sc) ∧ w'.cell? ⟨P, 3, none⟩ = some (.slice U m uc) ∧ w'.cell? ⟨P, 4, none⟩ = some (.bool res) ∧ w'.cell? ⟨Q, 0, none⟩ = some (.string dn) ∧ w'.cell? ⟨Q, 1, none⟩ = some (.int .i64 da) ∧ w'.cell? ⟨Q, 2, none⟩ = some (.slice dS dn1 dsc) ∧ w'.cell? ⟨Q, 3, none⟩ = some (.slice dU dn2 duc) ∧ w'.cell? ⟨Q, 4, none⟩ = some (.bool dr))
        (first | exact gI0 | exact gS | exact gT | go_keep)
        (first
          | (go_at_call 14
             refine (HSm.out _ ((F0.out.trans' H4.out (fun _ _ e => e)).trans' ((Fr.refl No w4).drew) (fun _ _ e => e)) (by first | rfl | trivial)).mono ?_
             rintro e wS ⟨rfl, fS⟩
             have FS : Fr No w4 wS := ((Fr.refl No w4).drew).then0 fS (fun _ h => h.elim)
             have gS := HS.out _ (H4.out.trans' FS (fun _ _ e => e)))
          | (go_at_call 9
             refine (HSr.out _ ((F0.out.trans' H4.out (fun _ _ e => e)).trans' FS (fun _ _ e => e)) (by first | rfl | trivial)).mono ?_
             rintro e wT ⟨rfl, fT⟩
             have FT : Fr No w4 wT := FS.then0 fT (fun _ h => h.elim)
             have gT := HS.out _ (H4.out.trans' FT (fun _ _ e => e))))
      all_goals
        go_wp2
        go_meet
        exact ⟨by first | rfl | rw [hsq], Lib.hid FT⟩
    case rest =>
      obtain ⟨rfl, hfx⟩ := hcut
      have H5 := Lib.hid (H4.out.trans' hfx.out (fun _ _ e => e))
      obtain ⟨k0, k1, k2, k3, k4, l0, l1, l2, l3, l4⟩ := HS.out _ (H5.out)
      obtain ⟨lp, lq⟩ := HL.out _ (H5.out)
      have D5 := Lib.hid (HM.out _ (F0.out.trans' H5.out (fun _ _ e => e)))
      go_wp2_with fail
      refine (D5.out).mono ?_
      rintro e w6 ⟨rfl, f6⟩
      have H6 := Lib.hid (H5.out.trans' f6 (fun _ _ e => e))
      have F6 := Lib.hid (F0.out.trans' H6.out (fun _ _ e => e))
      clear k0 k1 k2 k3 k4 l0 l1 l2 l3 l4 lp lq
      have f46 := Lib.hid (hfx.out.trans' f6 (fun _ _ e => e))
      clear f6 D5 H5 hfx
      have hB := HGB.out
      simp only [Bool.true_eq, Bool.and_eq_true, decide_eq_true_eq] at hB
      obtain ⟨hok, hna, hao⟩ := hB
      subst hok
      have q1 : ((N : Int) != a) = false := by simpa using hna
      have D7 := Lib.hid (HA.out _ F6.out (by omega))
      rw [hao] at D7
      clear hna hao HGB
      obtain ⟨k0, k1, k2, k3, k4, l0, l1, l2, l3, l4⟩ := HS.out _ (H6.out)
      obtain ⟨lp, lq⟩ := HL.out _ (H6.out)
      go_wp2_with fail
      refine (D7.out).mono ?_
      rintro e w7 ⟨rfl, f7⟩
      have H7 := Lib.hid (H6.out.trans' f7 (fun _ _ e => e))
      have S7 := Lib.hid (And.intro (S12.out.1.since (f46.out.trans' f7 (fun _ _ e => e))) (S12.out.2.since (f46.out.trans' f7 (fun _ _ e => e))))
      clear k0 k1 k2 k3 k4 l0 l1 l2 l3 l4 lp lq
      clear f7 D7 H6 F6 S12 f46
      obtain ⟨k0, k1, k2, k3, k4, l0, l1, l2, l3, l4⟩ := HS.out _ (H7.out)
      obtain ⟨lp, lq⟩ := HL.out _ (H7.out)
      have E1 := Lib.hid (HR.out false _ (F0.out.trans' H7.out (fun _ _ e => e)) (by first | rfl | trivial))
      go_wp2_with fail
      refine (E1.out).mono ?_
      rintro e w8 ⟨g8, rfl, hg8, -, f8⟩
      have P1 := Lib.hid (refPlain4_any g8 _ w8 hg8)
      have T8 := Lib.hid (And.intro (S7.out.1.since f8) (S7.out.2.since f8))
      have H8 := Lib.hid (H7.out.trans' f8 (fun _ _ e => e))
      clear k0 k1 k2 k3 k4 l0 l1 l2 l3 l4 lp lq
      clear f8 hg8 E1 S7 H7
      go_wp2_with fail
      refine (P1.out).mono ?_
      rintro e w9 ⟨A9, c9, rfl, sl9, f9⟩
      have T9 := Lib.hid (And.intro (T8.out.1.since f9) (T8.out.2.since f9))
      have H9 := Lib.hid (H8.out.trans' f9 (fun _ _ e => e))
      have L1 := Lib.hid (footsP_len false gs ss)
      have L2 := Lib.hid (footsP_len true gs ss)
      change Sl w9 w9.heap.size A9 (sps (footsP false gs ss)) at sl9
      have X1 := Lib.hid (refSame4_any (footsP false gs ss) (footsP false gs ss) B1 A9 (footsP false gs ss).length (footsP false gs ss).length d1 c9 w9 T9.out.1 sl9 rfl rfl (by have := L1.out; omega) (by have := L1.out; omega))
      have t1 : decide (footsP false gs ss = footsP false gs ss) = true := by simp
      rw [t1] at X1
      change _ = _ at t1
      clear f9 sl9 P1 T8 H8 t1
      go_wp2_with fail
      refine (X1.out).mono ?_
      rintro e w10 ⟨rfl, f10⟩
      have T10 := Lib.hid (T9.out.2.since f10)
      have H10 := Lib.hid (H9.out.trans' f10 (fun _ _ e => e))
      clear f10 X1 T9 H9
      obtain ⟨k0, k1, k2, k3, k4, l0, l1, l2, l3, l4⟩ := HS.out _ (H10.out)
      obtain ⟨lp, lq⟩ := HL.out _ (H10.out)
      have E2 := Lib.hid (HR.out true _ (F0.out.trans' H10.out (fun _ _ e => e)) (by first | rfl | trivial))
      go_wp2_with fail
      refine (E2.out).mono ?_
      rintro e w11 ⟨g11, rfl, hg11, -, f11⟩
      have P2 := Lib.hid (refPlain4_any g11 _ w11 hg11)
      have T11 := Lib.hid (T10.out.since f11)
      have H11 := Lib.hid (H10.out.trans' f11 (fun _ _ e => e))
      clear k0 k1 k2 k3 k4 l0 l1 l2 l3 l4 lp lq
      clear f11 hg11 E2 T10 H10
      go_wp2_with fail
      refine (P2.out).mono ?_
      rintro e w12 ⟨A12, c12, rfl, sl12, f12⟩
      have T12 := T11.out.since f12
      have H12 := Lib.hid (H11.out.trans' f12 (fun _ _ e => e))
      change Sl w12 w12.heap.size A12 (sps (footsP true gs ss)) at sl12
      have X2 := Lib.hid (refSame4_any (footsP true gs ss) (footsP true gs ss) B2 A12 (footsP true gs ss).length (footsP true gs ss).length d2 c12 w12 T12 sl12 rfl rfl (by have := L2.out; omega) (by have := L2.out; omega))
      have t2 : decide (footsP true gs ss = footsP true gs ss) = true := by simp
      rw [t2] at X2
      clear f12 sl12 P2 T11 H11 t2 T12
      go_wp2_with fail
      refine (X2.out).mono ?_
      rintro e w13 ⟨rfl, f13⟩
      go_wp2
      go_ret
      exact ⟨rfl, (F0.out.trans' H12.out (fun _ _ e => e)).trans' f13 (fun _ _ e => e)⟩
end Go.Proofs.Ytnlmhcfkipkegaa
