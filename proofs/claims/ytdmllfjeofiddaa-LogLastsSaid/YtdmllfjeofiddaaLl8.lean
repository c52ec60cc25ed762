/- The law 'LogLasts'. -/
import Derived.Test.YtdmllfjeofiddaaAl8
namespace Go.Proofs.Ytdmllfjeofiddaa
open Go.RowKit

set_option maxRecDepth 100000 in
set_option maxHeartbeats 8000000 in
theorem lawLasts8_any (se : Nat) (hse : se < 256) (xs ys : List FrV) (n1 n2 : Nat) (A1 A2 : Option Addr) (c1 c2 : Nat) (keep : List Bool) (kn : Nat) (Ak : Option Addr) (ck : Nat) (w : World) (hx : Frs w A1 xs) (hy : Frs w A2 ys) (hn1 : xs.length = n1) (hn2 : ys.length = n2) (hc1 : n1 ≤ c1) (hc1m : c1 ≤ maxLen) (hc2 : n2 ≤ c2) (hc2m : c2 ≤ maxLen) (hk : Sl w w.heap.size Ak (bools keep)) (hkn : keep.length = kn) :
    Calls Try.prog 4 #[.int .u8 se, .slice A1 n1 c1, .slice A2 n2 c2, .slice Ak kn ck] w fun e w' => e = .returned (.bool true) ∧ Fr No w w' := by
  have hcl1 : c1 ≤ 9223372036854775807 := hc1m
  have hcl2 : c2 ≤ 9223372036854775807 := hc2m
  have C0 := Lib.hid alive8_any
  by_cases h30 : n1 ≤ 30 ∧ n2 ≤ 30
  · obtain ⟨h31, h32⟩ := h30
    have d1 := decide_eq_false (show ¬ (30 : Int) < (n1 : Int) by omega)
    have d2 := decide_eq_false (show ¬ (30 : Int) < (n2 : Int) by omega)
    have HX := Lib.hid (fun W (hW : Fr No w W) => hx.since hW)
    have HY := Lib.hid (fun W (hW : Fr No w W) => hy.since hW)
    have Hxa0 := Lib.hid hx.arg
    have Hya0 := Lib.hid hy.arg
    have HK := Lib.hid (fun W (hW : Fr No w W) => hk.since hW)
    have Hn1 := Lib.hid hn1
    have Hn2 := Lib.hid hn2
    have Hkn := Lib.hid hkn
    clear hx hy hk hn1 hn2 hkn
    go_enter Try.func4, Try.ntmps4
    go_wp2_with fail
    refine (C0.out _).mono ?_
    rintro e wb ⟨rfl, f1⟩
    have FB := Lib.hid f1
    have Hxa : Hid (∀ x ∈ xs, ∀ k, xB x k → k < wb.heap.size) := Lib.hid (fun x hx k hk => Nat.lt_of_lt_of_le (Hxa0.out x hx k hk) FB.out.size)
    have Hya : Hid (∀ x ∈ ys, ∀ k, xB x k → k < wb.heap.size) := Lib.hid (fun x hx k hk => Nat.lt_of_lt_of_le (Hya0.out x hx k hk) FB.out.size)
    clear f1 C0 Hxa0 Hya0
    obtain ⟨n, Hn⟩ : ∃ n : Nat, Hid (n = se % 30 + 1) := ⟨_, Lib.hid rfl⟩
    have hn30 : 1 ≤ n ∧ n ≤ 30 := by have := Hn.out; omega
    have e1 : (se : Int) % 30 + 1 = (n : Int) := by have := Hn.out; omega
    have e0 : wrap64 ((se : Int) % 30) = (se : Int) % 30 := by unfold wrap64; omega
    go_wp2_with fail
    refine (dNew_yes n (by omega) (by omega) wb).mono ?_
    rintro e w1 ⟨S1, d, rfl, hD1, hS1⟩
    have E1 := Env.begin (Fr.refl No wb) hD1 hS1
    have CO := Lib.hid (lOpen_yes 0 n (show 0 + n ≤ (Dv.new n).n by show 0 + n ≤ n; omega) hn30.1 1 (by decide) w1 E1.dd)
    have HO : Hid (∀ e w2, LOpen S1 d (Dv.new n) 0 n 1 w1 e w2 → _) := Lib.hid (fun e w2 hO => LE.opened (w0 := wb) (e := e) (w' := w2) (show 0 + n ≤ (Dv.new n).n by show 0 + n ≤ n; omega) hn30.1 (by decide) E1.dd E1.new E1.fr hO)
    clear hD1 hS1 E1
    go_wp2_with fail
    refine CO.out.mono ?_
    rintro e w2 hO
    obtain ⟨S2, T2, l, k, fs, rfl, ht, hL⟩ := HO.out _ _ hO
    obtain ⟨rfl, rfl⟩ := told_new ht
    have HL0 := Lib.hid hL
    have HS0 := Lib.hid (Synced.new hL.inv)
    have HDn : Hid ((openD (Dv.new n) 0 n 0).n = n) := Lib.hid (openD_n _ _ _ _)
    clear hO ht CO hL HO
    go_wp2
    go_loopw [13, 14, 15] (fun av sv iv wr => ∃ (j sy nn : Nat) (A : Option Addr) (c : Nat) (S T : Nat → Prop) (D : Dv) (M : Lg) (gs : List FrV), j ≤ n1 + n2 ∧ iv = .int .i64 j ∧ av = .slice A nn c ∧ sv = .int .i64 sy ∧ nn ≤ c ∧ c ≤ maxLen ∧ Hid (LE wb wr S T d l D M) ∧ Hid (AL wb wr S T A nn c gs) ∧ Hid (Synced D M sy) ∧ Hid (gs.map FrV.f = M.L ∧ M.q = 0 ∧ M.n = n ∧ M.ep = 1 ∧ D.n = n)) (fun _ _ iv _ => (n1 + n2) - (intOf iv).toNat)
    case atStart => exact ⟨0, 0, 0, none, 0, S2, T2, _, _, [], by omega, rfl, rfl, rfl, Nat.le_refl _, Nat.zero_le _, HL0, Lib.hid (AL.nil _ _ _ _), HS0, Lib.hid ⟨rfl, rfl, rfl, rfl, HDn.out⟩⟩
    case round =>
      obtain ⟨j, sy, nn, A, c, S, T, D, M, gs, hj, rfl, rfl, rfl, hcc, hcm, HE, HL, HS, HM⟩ := hrel
      have hcc63 : c ≤ 9223372036854775807 := hcm
      have Hnm : Hid (nn ≤ 32768) := Lib.hid (by have := HE.out.inv.len; rw [← HM.out.1, List.length_map, HL.out.len] at this; exact this)
      by_cases hlt : j < n1 + n2
      · have q0 := decide_eq_true (show (j : Int) < (n1 : Int) + (n2 : Int) by omega)
        by_cases hj1 : j < n1
        · clear HS0 HL0 HDn
          have q1 : ((j : Int) == (n1 : Int)) = false := by simp; omega
          have q2 := decide_eq_true (show (j : Int) < (n1 : Int) by omega)
          have hxs := HX.out wr (FB.out.trans' HE.out.fr (fun _ _ e => e))
          have hjl : j < xs.length := by rw [Hn1.out]; exact hj1
          have harg0 := Hxa.out xs[j] (List.getElem_mem hjl)
          have hfit0 := hxs.fit xs[j] (List.getElem_mem hjl)
          obtain ⟨ad, rfl, hadB, k0, k1⟩ := (hxs.since ((Fr.refl No wr).alloc (.cells #[.int .i64 0, .slice none 0 0] 38))).at hjl
          generalize xs[j] = x at *
          obtain ⟨kd, xA, xw, xc⟩ := x
          obtain ⟨z, Hz⟩ : ∃ z, Hid (xw.length = z) := ⟨_, Lib.hid rfl⟩
          have hcells : FrV.agg ⟨kd, xA, xw, xc⟩ = .agg #[.int .i64 kd, .slice xA z xc] := by unfold FrV.agg; rw [Hz.out]
          simp only at k0 k1
          rw [Hz.out] at k1
          have Harg := Lib.hid harg0
          have Hfit := Lib.hid hfit0
          have f3 : Fr No wr ((wr).alloc (.cells #[.int .i64 kd, .slice xA z xc] 38)) := (Fr.refl _ _).alloc _
          have HE3 := Lib.hid (HE.out.quiet f3)
          have HL3 := Lib.hid (HL.out.quiet f3)
          have hbx := Bk.made wr 38 #[.int .i64 kd, .slice xA z xc]
          obtain ⟨ds3, ds4, hds⟩ := HE3.out.dd
          have CA0 := lAppend_any ⟨kd, xA, xw, xc⟩ _ hds HE3.out.lo HE3.out.ap HE3.out.inv (Hfit.out.since f3)
          rw [hcells] at CA0
          have CA := Lib.hid CA0
          have Hbo : Hid (¬ S (wr).heap.size ∧ ¬ T (wr).heap.size) := Lib.hid ⟨fun e => by obtain ⟨p1, p2, p3⟩ := HE.out.dd; have := p3.lt _ e; omega, fun e => by have := HE.out.lo.lt _ e; omega⟩
          have Hfw : Hid (Fr No wb (wr)) := Lib.hid HE.out.fr
          clear harg0 hfit0 hadB hcells f3 hds CA0 HE HL hxs hjl
          by_cases hz4 : z ≤ 400
          · have q7 := decide_eq_false (show ¬ (400 : Int) < (z : Int) by omega)
            go_wp2_with fail
            refine CA.out.mono ?_
            rintro e w5 hA
            obtain ⟨rfl, S5, T5, hE5, hF5, hs5, ht5⟩ := HE3.out.app' hA
            have hsn := HE3.out.sn
            have htn := HE3.out.tn
            have hL5 := HL3.out.turn (S' := S5) (T' := T5) hF5 (fun _ e => e) (fun k e => by rcases e with e | e; exact hsn k e; exact htn k e) hs5 ht5
            have hbx5 := hbx.fr hF5 (fun e => by rcases e with e | e; exact Hbo.out.1 e; exact Hbo.out.2 e)
            have k0 := hbx5.cell 0
            have k1 := hbx5.cell 1
            simp at k0 k1
            have hfit5 := fit_frS (Hfit.out.since ((Fr.refl No _).alloc (.cells #[.int .i64 kd, .slice xA z xc] 38))) hF5 (fun k hk e => by have := Harg.out k hk; rcases e with e | e; (have := hsn k e; omega); (have := htn k e; omega))
            have HE5 := Lib.hid hE5
            have HL5 := Lib.hid hL5
            have HF5 := Lib.hid hfit5
            have HS5 := Lib.hid (HS.out.app (FrV.f ⟨kd, xA, xw, xc⟩))
            have Hds : Hid ((appDv D M (FrV.f ⟨kd, xA, xw, xc⟩)).n = n) := Lib.hid (by rw [appDv_n]; exact HM.out.2.2.2.2)
            have Hms := Lib.hid (appM_same M (FrV.f ⟨kd, xA, xw, xc⟩))
            clear hA hE5 hF5 hs5 ht5 hsn htn hL5 hbx5 hfit5 hbx Hbo CA HE3 HL3 HS
            obtain ⟨ee, Hee⟩ : ∃ ee, Hid (appE M (FrV.f ⟨kd, xA, xw, xc⟩) = ee) := ⟨_, Lib.hid rfl⟩
            rw [Hee.out]
            by_cases h0 : ee = 0
            · subst h0
              have Hy := Lib.hid (app_yes Hee.out)
              have hnm := Hnm.out
              go_wp2_with (
                at_builtin
                refine app_al (wb := wb) rfl _ _ rfl kd xA xw xc z Hz.out rfl w5.heap.size rfl rfl HL5.out HE5.out.fr HF5.out Harg.out (fun k hk => by obtain ⟨p1, p2, p3⟩ := HE5.out.dd; exact p3.lt k hk) HE5.out.lo.lt (by omega) ?_
                intro A' c' w6 hL6 hf6)
              have hsh := own_shape hL6.own
              obtain ⟨A9, c9, hv9, h91, h92, -⟩ := hsh
              injection hv9 with e91 e92 e93
              subst e93
              have HE6 : Hid (LE wb w6 S5 T5 d l _ _) := Lib.hid (HE5.out.put hf6 (fun k hk e => (HL5.out.out k e).1 hk) (fun k hk e => (HL5.out.out k e).2 hk) (fun k e => (HL5.out.own.lt k e).1))
              have HL6 := Lib.hid hL6
              clear hL6 hf6 e91 e92
              go_roundw
              case rel =>
                refine ⟨j + 1, sy, nn + 1, A', c', S5, T5, _, _, gs ++ [⟨kd, xA, xw, xc⟩], by omega, by go_num, by first | rfl | go_num, rfl, h91, h92, HE6, HL6, HS5, Lib.hid ⟨?_, Hms.out.1.trans HM.out.2.1, Hms.out.2.1.trans HM.out.2.2.1, Hms.out.2.2.trans HM.out.2.2.2.1, Hds.out⟩⟩
                rw [List.map_append, HM.out.1, Hy.out]
                rfl
              case measure => simp [intOf]; omega
            · have hq9 : ((ee : Int) == 0) = false := by simp; omega
              have Hno := Lib.hid (app_no (M := M) (f := FrV.f ⟨kd, xA, xw, xc⟩) (by rw [Hee.out]; exact h0))
              clear k0 k1
              go_wp2
              go_roundw
              case rel => exact ⟨j + 1, sy, nn, A, c, S5, T5, _, _, gs, by omega, by go_num, rfl, rfl, hcc, hcm, HE5, HL5, HS5, Lib.hid ⟨by rw [Hno.out]; exact HM.out.1, Hms.out.1.trans HM.out.2.1, Hms.out.2.1.trans HM.out.2.2.1, Hms.out.2.2.trans HM.out.2.2.2.1, Hds.out⟩⟩
              case measure => simp [intOf]; omega
          · have q7 := decide_eq_true (show (400 : Int) < (z : Int) by omega)
            have Hend : Hid (Fr No w ((wr).alloc (.cells #[.int .i64 kd, .slice xA z xc] 38))) := Lib.hid ((FB.out.trans' Hfw.out (fun _ _ e => e)).alloc _)
            clear CA HE3 HL3 hbx Hbo Hfw
            go_wp2
            go_ret
            exact ⟨rfl, Hend.out⟩
        · by_cases hj2 : j = n1
          · clear HS0 HL0 HDn
            have q1 : ((j : Int) == (n1 : Int)) = true := by simp; omega
            have q2 := decide_eq_false (show ¬ (j : Int) < (n1 : Int) by omega)
            have q3 : ((j : Int) - (n1 : Int)).toNat = j - n1 := by omega
            have q4 : IntKind.i64.wrap ((j : Int) - (n1 : Int)) = (j : Int) - (n1 : Int) := IntWalk.i64_in _ (by omega)
            have q5 : (0 : Int) ≤ (j : Int) - (n1 : Int) := by omega
            have q6 : (j : Int) - (n1 : Int) < (n2 : Int) := by omega
            obtain ⟨ds1, ds2, hds⟩ := HE.out.dd
            have CS := Lib.hid (lSync_any wr hds HE.out.lo HE.out.ap)
            clear hds
            go_wp2_with fail
            refine CS.out.mono ?_
            rintro e w2 ⟨rfl, S2, ea, eb, hD2, hS2⟩
            obtain ⟨hi2, hsy2⟩ := Synced.sync HE.out.inv
            have hE2 := HE.out.dstep hD2 hS2 hi2
            have hL2 := HL.out.turn (S' := S2) (T' := T) hS2.fr (fun k hk => .inl hk) HE.out.sn hS2.grow (fun k hk => .inl hk)
            have Hnn : Hid (M.L.length = nn) := Lib.hid (by rw [← HM.out.1, List.length_map]; exact HL.out.len)
            rw [Hnn.out] at hsy2
            have HE2 := Lib.hid hE2
            have HL2 := Lib.hid hL2
            have HS2 := Lib.hid hsy2
            clear CS hD2 hS2 hi2 hsy2 hE2 hL2 HE HL HS Hnn
            have hys := HY.out w2 (FB.out.trans' HE2.out.fr (fun _ _ e => e))
            have hjl : 0 < ys.length := by rw [Hn2.out]; omega
            have harg0 := Hya.out ys[0] (List.getElem_mem hjl)
            have hfit0 := hys.fit ys[0] (List.getElem_mem hjl)
            obtain ⟨ad, rfl, hadB, k0, k1⟩ := (hys.since ((Fr.refl No w2).alloc (.cells #[.int .i64 0, .slice none 0 0] 38))).at hjl
            generalize ys[0] = x at *
            rw [show ad.add (0 * 2) = ad by simp [Addr.add]] at k0 k1
            obtain ⟨kd, xA, xw, xc⟩ := x
            obtain ⟨z, Hz⟩ : ∃ z, Hid (xw.length = z) := ⟨_, Lib.hid rfl⟩
            have hcells : FrV.agg ⟨kd, xA, xw, xc⟩ = .agg #[.int .i64 kd, .slice xA z xc] := by unfold FrV.agg; rw [Hz.out]
            simp only at k0 k1
            rw [Hz.out] at k1
            have Harg := Lib.hid harg0
            have Hfit := Lib.hid hfit0
            have f3 : Fr No w2 ((w2).alloc (.cells #[.int .i64 kd, .slice xA z xc] 38)) := (Fr.refl _ _).alloc _
            have HE3 := Lib.hid (HE2.out.quiet f3)
            have HL3 := Lib.hid (HL2.out.quiet f3)
            have hbx := Bk.made w2 38 #[.int .i64 kd, .slice xA z xc]
            obtain ⟨ds3, ds4, hds⟩ := HE3.out.dd
            have CA0 := lAppend_any ⟨kd, xA, xw, xc⟩ _ hds HE3.out.lo HE3.out.ap HE3.out.inv (Hfit.out.since f3)
            rw [hcells] at CA0
            have CA := Lib.hid CA0
            have Hbo : Hid (¬ S2 (w2).heap.size ∧ ¬ T (w2).heap.size) := Lib.hid ⟨fun e => by obtain ⟨p1, p2, p3⟩ := HE2.out.dd; have := p3.lt _ e; omega, fun e => by have := HE2.out.lo.lt _ e; omega⟩
            have Hfw : Hid (Fr No wb (w2)) := Lib.hid HE2.out.fr
            clear harg0 hfit0 hadB hcells f3 hds CA0 HE2 HL2 hys hjl
            by_cases hz4 : z ≤ 400
            · have q7 := decide_eq_false (show ¬ (400 : Int) < (z : Int) by omega)
              go_wp2_with fail
              refine CA.out.mono ?_
              rintro e w5 hA
              obtain ⟨rfl, S5, T5, hE5, hF5, hs5, ht5⟩ := HE3.out.app' hA
              have hsn := HE3.out.sn
              have htn := HE3.out.tn
              have hL5 := HL3.out.turn (S' := S5) (T' := T5) hF5 (fun _ e => e) (fun k e => by rcases e with e | e; exact hsn k e; exact htn k e) hs5 ht5
              have hbx5 := hbx.fr hF5 (fun e => by rcases e with e | e; exact Hbo.out.1 e; exact Hbo.out.2 e)
              have k0 := hbx5.cell 0
              have k1 := hbx5.cell 1
              simp at k0 k1
              have hfit5 := fit_frS (Hfit.out.since ((Fr.refl No _).alloc (.cells #[.int .i64 kd, .slice xA z xc] 38))) hF5 (fun k hk e => by have := Harg.out k hk; rcases e with e | e; (have := hsn k e; omega); (have := htn k e; omega))
              have HE5 := Lib.hid hE5
              have HL5 := Lib.hid hL5
              have HF5 := Lib.hid hfit5
              have HS5 := Lib.hid (HS2.out.app (FrV.f ⟨kd, xA, xw, xc⟩))
              have Hds : Hid ((appDv D.sync M (FrV.f ⟨kd, xA, xw, xc⟩)).n = n) := Lib.hid (by rw [appDv_n]; exact HM.out.2.2.2.2)
              have Hms := Lib.hid (appM_same M (FrV.f ⟨kd, xA, xw, xc⟩))
              clear hA hE5 hF5 hs5 ht5 hsn htn hL5 hbx5 hfit5 hbx Hbo CA HE3 HL3 HS2
              obtain ⟨ee, Hee⟩ : ∃ ee, Hid (appE M (FrV.f ⟨kd, xA, xw, xc⟩) = ee) := ⟨_, Lib.hid rfl⟩
              rw [Hee.out]
              by_cases h0 : ee = 0
              · subst h0
                have Hy := Lib.hid (app_yes Hee.out)
                have hnm := Hnm.out
                go_wp2_with (
                  at_builtin
                  refine app_al (wb := wb) rfl _ _ rfl kd xA xw xc z Hz.out rfl w5.heap.size rfl rfl HL5.out HE5.out.fr HF5.out Harg.out (fun k hk => by obtain ⟨p1, p2, p3⟩ := HE5.out.dd; exact p3.lt k hk) HE5.out.lo.lt (by omega) ?_
                  intro A' c' w6 hL6 hf6)
                have hsh := own_shape hL6.own
                obtain ⟨A9, c9, hv9, h91, h92, -⟩ := hsh
                injection hv9 with e91 e92 e93
                subst e93
                have HE6 : Hid (LE wb w6 S5 T5 d l _ _) := Lib.hid (HE5.out.put hf6 (fun k hk e => (HL5.out.out k e).1 hk) (fun k hk e => (HL5.out.out k e).2 hk) (fun k e => (HL5.out.own.lt k e).1))
                have HL6 := Lib.hid hL6
                clear hL6 hf6 e91 e92
                go_roundw
                case rel =>
                  refine ⟨j + 1, nn, nn + 1, A', c', S5, T5, _, _, gs ++ [⟨kd, xA, xw, xc⟩], by omega, by go_num, by first | rfl | go_num, rfl, h91, h92, HE6, HL6, HS5, Lib.hid ⟨?_, Hms.out.1.trans HM.out.2.1, Hms.out.2.1.trans HM.out.2.2.1, Hms.out.2.2.trans HM.out.2.2.2.1, Hds.out⟩⟩
                  rw [List.map_append, HM.out.1, Hy.out]
                  rfl
                case measure => simp [intOf]; omega
              · have hq9 : ((ee : Int) == 0) = false := by simp; omega
                have Hno := Lib.hid (app_no (M := M) (f := FrV.f ⟨kd, xA, xw, xc⟩) (by rw [Hee.out]; exact h0))
                clear k0 k1
                go_wp2
                go_roundw
                case rel => exact ⟨j + 1, nn, nn, A, c, S5, T5, _, _, gs, by omega, by go_num, rfl, rfl, hcc, hcm, HE5, HL5, HS5, Lib.hid ⟨by rw [Hno.out]; exact HM.out.1, Hms.out.1.trans HM.out.2.1, Hms.out.2.1.trans HM.out.2.2.1, Hms.out.2.2.trans HM.out.2.2.2.1, Hds.out⟩⟩
                case measure => simp [intOf]; omega
            · have q7 := decide_eq_true (show (400 : Int) < (z : Int) by omega)
              have Hend : Hid (Fr No w ((w2).alloc (.cells #[.int .i64 kd, .slice xA z xc] 38))) := Lib.hid ((FB.out.trans' Hfw.out (fun _ _ e => e)).alloc _)
              clear CA HE3 HL3 hbx Hbo Hfw
              go_wp2
              go_ret
              exact ⟨rfl, Hend.out⟩
          · clear HS0 HL0 HDn
            have q1 : ((j : Int) == (n1 : Int)) = false := by simp; omega
            have q2 := decide_eq_false (show ¬ (j : Int) < (n1 : Int) by omega)
            have q3 : ((j : Int) - (n1 : Int)).toNat = j - n1 := by omega
            have q4 : IntKind.i64.wrap ((j : Int) - (n1 : Int)) = (j : Int) - (n1 : Int) := IntWalk.i64_in _ (by omega)
            have q5 : (0 : Int) ≤ (j : Int) - (n1 : Int) := by omega
            have q6 : (j : Int) - (n1 : Int) < (n2 : Int) := by omega
            have hys := HY.out wr (FB.out.trans' HE.out.fr (fun _ _ e => e))
            have hjl : j - n1 < ys.length := by rw [Hn2.out]; omega
            have harg0 := Hya.out ys[j - n1] (List.getElem_mem hjl)
            have hfit0 := hys.fit ys[j - n1] (List.getElem_mem hjl)
            obtain ⟨ad, rfl, hadB, k0, k1⟩ := (hys.since ((Fr.refl No wr).alloc (.cells #[.int .i64 0, .slice none 0 0] 38))).at hjl
            generalize ys[j - n1] = x at *
            obtain ⟨kd, xA, xw, xc⟩ := x
            obtain ⟨z, Hz⟩ : ∃ z, Hid (xw.length = z) := ⟨_, Lib.hid rfl⟩
            have hcells : FrV.agg ⟨kd, xA, xw, xc⟩ = .agg #[.int .i64 kd, .slice xA z xc] := by unfold FrV.agg; rw [Hz.out]
            simp only at k0 k1
            rw [Hz.out] at k1
            have Harg := Lib.hid harg0
            have Hfit := Lib.hid hfit0
            have f3 : Fr No wr ((wr).alloc (.cells #[.int .i64 kd, .slice xA z xc] 38)) := (Fr.refl _ _).alloc _
            have HE3 := Lib.hid (HE.out.quiet f3)
            have HL3 := Lib.hid (HL.out.quiet f3)
            have hbx := Bk.made wr 38 #[.int .i64 kd, .slice xA z xc]
            obtain ⟨ds3, ds4, hds⟩ := HE3.out.dd
            have CA0 := lAppend_any ⟨kd, xA, xw, xc⟩ _ hds HE3.out.lo HE3.out.ap HE3.out.inv (Hfit.out.since f3)
            rw [hcells] at CA0
            have CA := Lib.hid CA0
            have Hbo : Hid (¬ S (wr).heap.size ∧ ¬ T (wr).heap.size) := Lib.hid ⟨fun e => by obtain ⟨p1, p2, p3⟩ := HE.out.dd; have := p3.lt _ e; omega, fun e => by have := HE.out.lo.lt _ e; omega⟩
            have Hfw : Hid (Fr No wb (wr)) := Lib.hid HE.out.fr
            clear harg0 hfit0 hadB hcells f3 hds CA0 HE HL hys hjl
            by_cases hz4 : z ≤ 400
            · have q7 := decide_eq_false (show ¬ (400 : Int) < (z : Int) by omega)
              go_wp2_with fail
              refine CA.out.mono ?_
              rintro e w5 hA
              obtain ⟨rfl, S5, T5, hE5, hF5, hs5, ht5⟩ := HE3.out.app' hA
              have hsn := HE3.out.sn
              have htn := HE3.out.tn
              have hL5 := HL3.out.turn (S' := S5) (T' := T5) hF5 (fun _ e => e) (fun k e => by rcases e with e | e; exact hsn k e; exact htn k e) hs5 ht5
              have hbx5 := hbx.fr hF5 (fun e => by rcases e with e | e; exact Hbo.out.1 e; exact Hbo.out.2 e)
              have k0 := hbx5.cell 0
              have k1 := hbx5.cell 1
              simp at k0 k1
              have hfit5 := fit_frS (Hfit.out.since ((Fr.refl No _).alloc (.cells #[.int .i64 kd, .slice xA z xc] 38))) hF5 (fun k hk e => by have := Harg.out k hk; rcases e with e | e; (have := hsn k e; omega); (have := htn k e; omega))
              have HE5 := Lib.hid hE5
              have HL5 := Lib.hid hL5
              have HF5 := Lib.hid hfit5
              have HS5 := Lib.hid (HS.out.app (FrV.f ⟨kd, xA, xw, xc⟩))
              have Hds : Hid ((appDv D M (FrV.f ⟨kd, xA, xw, xc⟩)).n = n) := Lib.hid (by rw [appDv_n]; exact HM.out.2.2.2.2)
              have Hms := Lib.hid (appM_same M (FrV.f ⟨kd, xA, xw, xc⟩))
              clear hA hE5 hF5 hs5 ht5 hsn htn hL5 hbx5 hfit5 hbx Hbo CA HE3 HL3 HS
              obtain ⟨ee, Hee⟩ : ∃ ee, Hid (appE M (FrV.f ⟨kd, xA, xw, xc⟩) = ee) := ⟨_, Lib.hid rfl⟩
              rw [Hee.out]
              by_cases h0 : ee = 0
              · subst h0
                have Hy := Lib.hid (app_yes Hee.out)
                have hnm := Hnm.out
                go_wp2_with (
                  at_builtin
                  refine app_al (wb := wb) rfl _ _ rfl kd xA xw xc z Hz.out rfl w5.heap.size rfl rfl HL5.out HE5.out.fr HF5.out Harg.out (fun k hk => by obtain ⟨p1, p2, p3⟩ := HE5.out.dd; exact p3.lt k hk) HE5.out.lo.lt (by omega) ?_
                  intro A' c' w6 hL6 hf6)
                have hsh := own_shape hL6.own
                obtain ⟨A9, c9, hv9, h91, h92, -⟩ := hsh
                injection hv9 with e91 e92 e93
                subst e93
                have HE6 : Hid (LE wb w6 S5 T5 d l _ _) := Lib.hid (HE5.out.put hf6 (fun k hk e => (HL5.out.out k e).1 hk) (fun k hk e => (HL5.out.out k e).2 hk) (fun k e => (HL5.out.own.lt k e).1))
                have HL6 := Lib.hid hL6
                clear hL6 hf6 e91 e92
                go_roundw
                case rel =>
                  refine ⟨j + 1, sy, nn + 1, A', c', S5, T5, _, _, gs ++ [⟨kd, xA, xw, xc⟩], by omega, by go_num, by first | rfl | go_num, rfl, h91, h92, HE6, HL6, HS5, Lib.hid ⟨?_, Hms.out.1.trans HM.out.2.1, Hms.out.2.1.trans HM.out.2.2.1, Hms.out.2.2.trans HM.out.2.2.2.1, Hds.out⟩⟩
                  rw [List.map_append, HM.out.1, Hy.out]
                  rfl
                case measure => simp [intOf]; omega
              · have hq9 : ((ee : Int) == 0) = false := by simp; omega
                have Hno := Lib.hid (app_no (M := M) (f := FrV.f ⟨kd, xA, xw, xc⟩) (by rw [Hee.out]; exact h0))
                clear k0 k1
                go_wp2
                go_roundw
                case rel => exact ⟨j + 1, sy, nn, A, c, S5, T5, _, _, gs, by omega, by go_num, rfl, rfl, hcc, hcm, HE5, HL5, HS5, Lib.hid ⟨by rw [Hno.out]; exact HM.out.1, Hms.out.1.trans HM.out.2.1, Hms.out.2.1.trans HM.out.2.2.1, Hms.out.2.2.trans HM.out.2.2.2.1, Hds.out⟩⟩
                case measure => simp [intOf]; omega
            · have q7 := decide_eq_true (show (400 : Int) < (z : Int) by omega)
              have Hend : Hid (Fr No w ((wr).alloc (.cells #[.int .i64 kd, .slice xA z xc] 38))) := Lib.hid ((FB.out.trans' Hfw.out (fun _ _ e => e)).alloc _)
              clear CA HE3 HL3 hbx Hbo Hfw
              go_wp2
              go_ret
              exact ⟨rfl, Hend.out⟩
      · obtain rfl : j = n1 + n2 := by omega
        have q0 := decide_eq_false (show ¬ ((n1 + n2 : Nat) : Int) < (n1 : Int) + (n2 : Int) by omega)
        have HKw := Lib.hid (HK.out wb FB.out)
        have HMx := HM
        clear HS0 HL0 HDn hlt hj
        by_cases hz0 : n2 = 0
        · have q9 : ((n2 : Int) == 0) = true := by simp; omega
          obtain ⟨ds1, ds2, hds⟩ := HE.out.dd
          have CS := Lib.hid (lSync_any wr hds HE.out.lo HE.out.ap)
          clear hds
          go_wp2_with fail
          refine CS.out.mono ?_
          rintro e w3 ⟨rfl, S3, ea, eb, hD2, hS2⟩
          obtain ⟨hi2, hsy2⟩ := Synced.sync HE.out.inv
          have hE2 := HE.out.dstep hD2 hS2 hi2
          have hL2 := HL.out.turn (S' := S3) (T' := T) hS2.fr (fun k hk => .inl hk) HE.out.sn hS2.grow (fun k hk => .inl hk)
          have Hnn : Hid (M.L.length = nn) := Lib.hid (by rw [← HM.out.1, List.length_map]; exact HL.out.len)
          rw [Hnn.out] at hsy2
          have HE2 := Lib.hid hE2
          have HL2 := Lib.hid hL2
          have HS2 := Lib.hid hsy2
          have HMx : Hid (gs.map FrV.f = M.L ∧ M.q = 0 ∧ M.n = n ∧ M.ep = 1 ∧ D.sync.n = n) := Lib.hid HM.out
          clear CS hD2 hS2 hi2 hsy2 hE2 hL2 HE HL HS Hnn
          obtain ⟨da, db, hdd⟩ := HE2.out.dd
          have hE0 : Env wb w3 S3 d D.sync da db := ⟨hdd, HE2.out.sn, HE2.out.fr⟩
          have CK := Lib.hid (keeps_any keep Ak kn ck w3 (HK.out w3 (FB.out.trans' HE2.out.fr (fun _ _ e => e))) Hkn.out)
          have HE0 := Lib.hid hE0
          have HKl := Lib.hid (HK.out w3 (FB.out.trans' HE2.out.fr (fun _ _ e => e)))
          clear hdd hE0
          go_wp2_with fail
          refine CK.out.mono ?_
          rintro e w4 ⟨kx, ky, rfl, hk, hkx, hky, hf⟩
          have hs4 := HE0.out.dd.lt
          have CC := Lib.hid (dCrash_any kx ky Ak kn ck keep w4 (HE0.out.quiet hf).dd hk (fun e => by have := hs4 _ e; omega) (fun e => by have := hs4 _ e; omega) (fun ad e hne e2 => by
            have h9 := HE0.out.new _ e2
            obtain ⟨ad', e', hb9, _⟩ := HKw.out (by intro h0; apply hne; simpa [bools] using h0)
            rw [e] at e'
            injection e' with e'
            subst e'
            have := FB.out.size
            omega) HE0.out.dd.small)
          clear hs4
          go_wp2_with fail
          refine CC.out.mono ?_
          rintro e w5 ⟨rfl, S5, hD, hfr, hg⟩
          have hS := keepCrash hf hkx hfr hg
          have hE5 := HE0.out.step hD hS
          have hL5 := HL2.out.turn (S' := S5) (T' := T) hS.fr (fun k hk => .inl hk) HE2.out.sn hS.grow (fun k hk => .inl hk)
          have hq5 : 0 + n ≤ (D.sync.crash keep).n := by show 0 + n ≤ D.sync.n; rw [HMx.out.2.2.2.2]; omega
          have CO := Lib.hid (lOpen_yes 0 n hq5 hn30.1 1 (by decide) w5 hE5.dd)
          have HO : Hid (∀ e w6, LOpen S5 d (D.sync.crash keep) 0 n 1 w5 e w6 → _) := Lib.hid (fun e w6 hO => LE.opened' (w0 := wb) (e := e) (w' := w6) hq5 hn30.1 (by decide) hE5.dd hE5.new hE5.fr hO)
          have HL5 := Lib.hid hL5
          have Hn5 := Lib.hid hE5.new
          have HDk : Hid (D.sync.Ok) := Lib.hid HE0.out.dd.ok
          have HIv : Hid (LInv D.sync M) := Lib.hid HE2.out.inv
          clear hf hkx hky hfr hg hS hE5 hL5 hq5 CC CK hk hD HE0 HE2 HL2 HKl
          go_wp2_with fail
          refine CO.out.mono ?_
          rintro e w6 hO
          obtain ⟨S6, T6, l6, k6, fs, rfl, ht, hE6, hS6, hT6⟩ := HO.out _ _ hO
          have hL6 := HL5.out.turn (S' := S6) (T' := T6) hS6.fr (fun k hk => .inl hk) Hn5.out hS6.grow (fun k hk => .inr (hT6 k hk))
          have HD3n : Hid ((openD (D.sync.crash keep) 0 n k6).n = n) := Lib.hid (by rw [openD_n]; exact HMx.out.2.2.2.2)
          have HT3 := Lib.hid hE6.inv.told
          have HC := Lib.hid ht
          have HE6 := Lib.hid hE6
          have HL6 := Lib.hid hL6
          clear hO ht hE6 hS6 hT6 hL6 HO CO HL5 Hn5
          obtain ⟨D3, HDD⟩ : ∃ D3, Hid (openD (D.sync.crash keep) 0 n k6 = D3) := ⟨_, Lib.hid rfl⟩
          rw [HDD.out] at HD3n HT3 HE6
          have HD3 := HD3n
          clear HD3n
          have CF := Lib.hid (lFrames_any w6 HE6.out.lo)
          go_wp2_with fail
          refine CF.out.mono ?_
          rintro e w7 ⟨gA, gc, zs, rfl, hz1, hz2, hz3, hz4, hz5, hz6⟩
          have HE7 := Lib.hid (HE6.out.quiet hz5)
          have HL7 := Lib.hid (HL6.out.quiet hz5)
          have HZ := Lib.hid hz2
          have HZf := Lib.hid hz1
          have hgc : gc ≤ 9223372036854775807 := hz4
          obtain ⟨zn, Hzn⟩ : ∃ zn, Hid (zs.length = zn) := ⟨_, Lib.hid rfl⟩
          rw [Hzn.out] at hz3 ⊢
          clear hz1 hz2 hz4 hz5 hz6 CF HE6 HL6
          go_wp2
          go_loopw [20, 21] (fun ov iv wr => ∃ (i a : Nat) (A : Option Addr) (c : Nat), i ≤ n ∧ a = 8 * i ∧ iv = .int .i64 i ∧ ov = .slice A a c ∧ Hid (wr.ownsRow w7.heap.size 40 1 ov a (u64s (wdsTo D3.rd 0 a))) ∧ Hid (Fr No w7 wr)) (fun _ iv _ => n - (intOf iv).toNat)
          case atStart => exact ⟨0, 0, none, 0, by omega, rfl, rfl, rfl, Lib.hid (World.ownsRow_nil _ _ _ _), Lib.hid (Fr.refl _ _)⟩
          case round =>
            obtain ⟨i, a, oA, oc, hi, ha, rfl, rfl, HO, HF⟩ := hrel
            have Ha := Lib.hid ha
            clear ha
            by_cases hlt : i < n
            · obtain ⟨da, db, hdd⟩ := (HE7.out.quiet HF.out).dd
              have hin : i < (D3).n := by rw [HD3.out]; exact hlt
              have hsec := hdd.ok.rd i hin
              obtain ⟨s0, s1, s2, s3, s4, s5, s6, s7, hs⟩ := sec_lit hsec
              have CR := Lib.hid (dRead_yes i hin s0 s1 s2 s3 s4 s5 s6 s7 hs wr hdd)
              have Hsec := Lib.hid hsec
              have Hs := Lib.hid hs
              clear hdd hin hsec hs
              go_wp2_with fail
              refine CR.out.mono ?_
              rintro e w9 ⟨rfl, f9⟩
              have hb9 := Bk.made w9 41 #[.int .u64 s0, .int .u64 s1, .int .u64 s2, .int .u64 s3, .int .u64 s4, .int .u64 s5, .int .u64 s6, .int .u64 s7]
              have HB9 : Hid (Bk (w9.alloc (.cells #[.int .u64 s0, .int .u64 s1, .int .u64 s2, .int .u64 s3, .int .u64 s4, .int .u64 s5, .int .u64 s6, .int .u64 s7] 41)) w9.heap.size 41 (secA ((D3).rd i))) := Lib.hid (by rw [Hs.out]; exact hb9)
              have f10 := f9.alloc (.cells #[.int .u64 s0, .int .u64 s1, .int .u64 s2, .int .u64 s3, .int .u64 s4, .int .u64 s5, .int .u64 s6, .int .u64 s7] 41)
              have HO9 := Lib.hid (own_fr HO.out f10 (fun _ _ e => e))
              have HF9 := Lib.hid (HF.out.trans' f10 (fun _ _ e => e))
              clear hb9 f9 f10 CR Hs HO HF
              obtain ⟨wa, Hwa⟩ : ∃ wa, Hid (wa = w9.alloc (.cells #[.int .u64 s0, .int .u64 s1, .int .u64 s2, .int .u64 s3, .int .u64 s4, .int .u64 s5, .int .u64 s6, .int .u64 s7] 41)) := ⟨_, Lib.hid rfl⟩
              rw [← Hwa.out] at HB9 HO9 HF9
              generalize hbx : w9.heap.size = bx at *
              go_wp2
              rw [← Hwa.out]
              clear Hwa hbx
              go_loopw [20, 24] (fun ov kv wr => ∃ (k a : Nat) (A : Option Addr) (c : Nat), k ≤ 8 ∧ a = 8 * i + k ∧ kv = .int .i64 k ∧ ov = .slice A a c ∧ Hid (wr.ownsRow w7.heap.size 40 1 ov a (u64s (wdsTo D3.rd 0 a))) ∧ Hid (Fr No w7 wr) ∧ Hid (Bk wr bx 41 (secA ((D3).rd i)))) (fun _ kv _ => 8 - (intOf kv).toNat)
              case atStart => exact ⟨0, a, oA, oc, by omega, by have := Ha.out; omega, rfl, rfl, HO9, HF9, HB9⟩
              case round =>
                obtain ⟨k, b, B, c', hk, hb, rfl, rfl, HO2, HF2, HB2⟩ := hrel
                have HB := Lib.hid hb
                by_cases hk8 : k < 8
                · have hc := sec_word HB2.out Hsec.out hk8
                  have hv : ((D3).rd i).getD k 0 = wdS D3.rd 0 b := by
                    unfold wdS
                    rw [show b / 8 = i by omega, show b % 8 = k by omega, Nat.zero_add]
                  rw [hv] at hc
                  have Hn9 := Lib.hid (wdsTo_succ D3.rd 0 b)
                  generalize wdS D3.rd 0 b = u at *
                  clear hv hb
                  go_wp2_with (
                    at_builtin
                    refine append_word rfl _ _ rfl w7.heap.size B b c' (wdsTo D3.rd 0 b) u _ rfl rfl wr.heap.size rfl rfl HO2.out (by have := HB.out; omega) HF2.out.size ?_
                    intro A' c'' w' q1 q2 q3)
                  go_roundw
                  case rel =>
                    refine ⟨k + 1, b + 1, A', c'', by omega, by have := HB.out; omega, by go_num, by first | rfl | go_num, Lib.hid (by rw [Hn9.out]; exact q1), Lib.hid (HF2.out.trans' q2 (fun x hx e => ?_)), Lib.hid (HB2.out.fr q2 (own_apart HO2.out HB2.out (by decide)))⟩
                    have := (HO2.out.lt x e).1
                    omega
                  case measure => simp [intOf]; omega
                · obtain rfl : k = 8 := by omega
                  clear hb
                  go_wp2
                  go_roundw
                  case rel => exact ⟨i + 1, b, B, c', by omega, by have := HB.out; omega, by go_num, rfl, HO2, HF2⟩
                  case measure => simp [intOf]; omega
            · obtain rfl : i = n := by omega
              obtain rfl : a = 8 * i := Ha.out
              clear Ha
              have hsl9 := Sl.ofOwn HO.out
              have hsh9 := own_shape HO.out
              obtain ⟨A9, c9, hv9, h91, h92, -⟩ := hsh9
              injection hv9 with e91 e92 e93
              subst e93
              have H64 := partW_lt (f := D3.rd) (q := 0) (n := i) (fun j hj => by obtain ⟨da, db, hdd⟩ := HE7.out.dd; exact hdd.ok.rd _ (by rw [HD3.out]; omega))
              have CL := Lib.hid (refAllN_any 1 (partW D3.rd 0 i) H64 (8 * i) oA oc wr hsl9 (partW_len _ _ _) h91 h92 (by omega))
              have HF9 := HF
              clear hsl9 e91 e92 HO HF H64
              go_wp2_with fail
              refine CL.out.mono ?_
              rintro e w10 ⟨ts, tA, tc, tk, rfl, htold, hfo, hnx⟩
              have hts := (htold.uniq HT3.out).1
              have hfs10 := hfo.frs
              have hcap := hfo.cap
              obtain ⟨tn, Htn⟩ : ∃ tn, Hid (ts.length = tn) := ⟨_, Lib.hid rfl⟩
              have f10 := HF9.out.trans' hfo.fr (fun _ _ e => e)
              have HTs := Lib.hid hts
              have hsy : nn ≤ zn := by
                obtain ⟨D0, M0, g1, g2, g3, g4⟩ := HS2.out.is
                have hq0 : M0.q = 0 := by rw [← g1.q]; exact HMx.out.2.1
                have hn0 : M0.n = i := by rw [← g1.n]; exact HMx.out.2.2.1
                have he0 : M0.ep = 1 := by rw [← g1.ep]; exact HMx.out.2.2.2.1
                have hc0 := HC.out
                rw [← hq0, ← hn0, ← he0] at hc0
                have h9 := (grew_lasts g1 g2 g3 HIv.out keep hc0).1
                rw [g4, ← Hzn.out, ← List.length_map (f := FrV.f), HZf.out]
                exact h9
              have hb10 : zn ≤ 1099511627776 ∧ tn ≤ 1099511627776 := by
                have h1 := HT3.out.1
                have h2 := (stepsF_stream (partW_lt (f := D3.rd) (q := 0) (n := i) (fun j hj => by obtain ⟨da, db, hdd⟩ := HE7.out.dd; exact hdd.ok.rd _ (by rw [HD3.out]; omega))) h1).1
                have h3 := streamF_len 1 0 fs
                rw [← h2, List.length_take, partW_len] at h3
                have h4 : zn = fs.length := by rw [← Hzn.out, ← List.length_map (f := FrV.f), HZf.out]
                have h5 : tn = fs.length := by rw [← Htn.out, ← List.length_map (f := FrV.f), hts]
                omega
              rw [Htn.out] at hcap ⊢
              have htc : tc ≤ 9223372036854775807 := hcap.2
              have CM := Lib.hid (refSame6_any zs ts gA tA zn tn gc tc w10 (HZ.out.since f10) hfs10 Hzn.out Htn.out hb10.1 hb10.2)
              have HZt : Hid (zs.map FrV.f = ts.map FrV.f) := Lib.hid (by rw [HZf.out, hts])
              have Hts10 := Lib.hid hfs10
              have HL10 := Lib.hid (HL7.out.quiet f10)
              have F10 := Lib.hid ((FB.out.trans' HE7.out.fr (fun _ _ e => e)).trans' f10 (fun _ _ e => e))
              clear htold hfo hnx hts hfs10 f10 CL HE7 HL7 HT3 HTs HF9
              go_wp2_with fail
              refine CM.out.mono ?_
              rintro e w11 ⟨⟨bb, rfl, hbb⟩, hf11⟩
              obtain rfl : bb = true := hbb.2 HZt.out
              have F11 := Lib.hid (F10.out.trans' hf11 (fun _ _ e => e))
              have Hsd := Lib.hid (decide_eq_true (show (nn : Int) ≤ (zn : Int) by omega))
              by_cases hgt : nn < tn
              · have d9 := decide_eq_true (show (nn : Int) < (tn : Int) by omega)
                clear CM hbb F10 Hts10 HL10
                go_wp2
                go_ret
                exact ⟨rfl, F11.out⟩
              · have d9 := decide_eq_false (show ¬ (nn : Int) < (tn : Int) by omega)
                have CQ := Lib.hid (refSame6_any ts (gs.take tn) tA A tn tn tc c w11 (Hts10.out.since hf11) ((HL10.out.quiet hf11).frs.take8 tn) Htn.out (by rw [List.length_take, HL10.out.len]; omega) hb10.2 hb10.2)
                have hd9 := Hsd.out
                clear CM hbb F10 Hts10 HL10 hf11
                go_wp2_with fail
                refine CQ.out.mono ?_
                rintro e w12 ⟨⟨b2, rfl, hb2⟩, hf12⟩
                have F12 := Lib.hid (F11.out.trans' hf12 (fun _ _ e => e))
                clear CQ hb2 hf12 F11
                cases b2 with
                | true =>
                  go_wp2
                  go_ret
                  exact ⟨by first | rfl | simp; omega, F12.out⟩
                | false =>
                  go_wp2
                  go_ret
                  exact ⟨rfl, F12.out⟩
        · have q9 : ((n2 : Int) == 0) = false := by simp; omega
          obtain ⟨da, db, hdd⟩ := HE.out.dd
          have hE0 : Env wb wr S d D da db := ⟨hdd, HE.out.sn, HE.out.fr⟩
          have CK := Lib.hid (keeps_any keep Ak kn ck wr (HK.out wr (FB.out.trans' HE.out.fr (fun _ _ e => e))) Hkn.out)
          have HE0 := Lib.hid hE0
          have HKl := Lib.hid (HK.out wr (FB.out.trans' HE.out.fr (fun _ _ e => e)))
          clear hdd hE0
          go_wp2_with fail
          refine CK.out.mono ?_
          rintro e w4 ⟨kx, ky, rfl, hk, hkx, hky, hf⟩
          have hs4 := HE0.out.dd.lt
          have CC := Lib.hid (dCrash_any kx ky Ak kn ck keep w4 (HE0.out.quiet hf).dd hk (fun e => by have := hs4 _ e; omega) (fun e => by have := hs4 _ e; omega) (fun ad e hne e2 => by
            have h9 := HE0.out.new _ e2
            obtain ⟨ad', e', hb9, _⟩ := HKw.out (by intro h0; apply hne; simpa [bools] using h0)
            rw [e] at e'
            injection e' with e'
            subst e'
            have := FB.out.size
            omega) HE0.out.dd.small)
          clear hs4
          go_wp2_with fail
          refine CC.out.mono ?_
          rintro e w5 ⟨rfl, S5, hD, hfr, hg⟩
          have hS := keepCrash hf hkx hfr hg
          have hE5 := HE0.out.step hD hS
          have hL5 := HL.out.turn (S' := S5) (T' := T) hS.fr (fun k hk => .inl hk) HE.out.sn hS.grow (fun k hk => .inl hk)
          have hq5 : 0 + n ≤ (D.crash keep).n := by show 0 + n ≤ D.n; rw [HMx.out.2.2.2.2]; omega
          have CO := Lib.hid (lOpen_yes 0 n hq5 hn30.1 1 (by decide) w5 hE5.dd)
          have HO : Hid (∀ e w6, LOpen S5 d (D.crash keep) 0 n 1 w5 e w6 → _) := Lib.hid (fun e w6 hO => LE.opened' (w0 := wb) (e := e) (w' := w6) hq5 hn30.1 (by decide) hE5.dd hE5.new hE5.fr hO)
          have HL5 := Lib.hid hL5
          have Hn5 := Lib.hid hE5.new
          have HDk : Hid (D.Ok) := Lib.hid HE0.out.dd.ok
          have HIv : Hid (LInv D M) := Lib.hid HE.out.inv
          clear hf hkx hky hfr hg hS hE5 hL5 hq5 CC CK hk hD HE0 HE HL HKl
          go_wp2_with fail
          refine CO.out.mono ?_
          rintro e w6 hO
          obtain ⟨S6, T6, l6, k6, fs, rfl, ht, hE6, hS6, hT6⟩ := HO.out _ _ hO
          have hL6 := HL5.out.turn (S' := S6) (T' := T6) hS6.fr (fun k hk => .inl hk) Hn5.out hS6.grow (fun k hk => .inr (hT6 k hk))
          have HD3n : Hid ((openD (D.crash keep) 0 n k6).n = n) := Lib.hid (by rw [openD_n]; exact HMx.out.2.2.2.2)
          have HT3 := Lib.hid hE6.inv.told
          have HC := Lib.hid ht
          have HE6 := Lib.hid hE6
          have HL6 := Lib.hid hL6
          clear hO ht hE6 hS6 hT6 hL6 HO CO HL5 Hn5
          obtain ⟨D3, HDD⟩ : ∃ D3, Hid (openD (D.crash keep) 0 n k6 = D3) := ⟨_, Lib.hid rfl⟩
          rw [HDD.out] at HD3n HT3 HE6
          have HD3 := HD3n
          clear HD3n
          have CF := Lib.hid (lFrames_any w6 HE6.out.lo)
          go_wp2_with fail
          refine CF.out.mono ?_
          rintro e w7 ⟨gA, gc, zs, rfl, hz1, hz2, hz3, hz4, hz5, hz6⟩
          have HE7 := Lib.hid (HE6.out.quiet hz5)
          have HL7 := Lib.hid (HL6.out.quiet hz5)
          have HZ := Lib.hid hz2
          have HZf := Lib.hid hz1
          have hgc : gc ≤ 9223372036854775807 := hz4
          obtain ⟨zn, Hzn⟩ : ∃ zn, Hid (zs.length = zn) := ⟨_, Lib.hid rfl⟩
          rw [Hzn.out] at hz3 ⊢
          clear hz1 hz2 hz4 hz5 hz6 CF HE6 HL6
          go_wp2
          go_loopw [20, 21] (fun ov iv wr => ∃ (i a : Nat) (A : Option Addr) (c : Nat), i ≤ n ∧ a = 8 * i ∧ iv = .int .i64 i ∧ ov = .slice A a c ∧ Hid (wr.ownsRow w7.heap.size 40 1 ov a (u64s (wdsTo D3.rd 0 a))) ∧ Hid (Fr No w7 wr)) (fun _ iv _ => n - (intOf iv).toNat)
          case atStart => exact ⟨0, 0, none, 0, by omega, rfl, rfl, rfl, Lib.hid (World.ownsRow_nil _ _ _ _), Lib.hid (Fr.refl _ _)⟩
          case round =>
            obtain ⟨i, a, oA, oc, hi, ha, rfl, rfl, HO, HF⟩ := hrel
            have Ha := Lib.hid ha
            clear ha
            by_cases hlt : i < n
            · obtain ⟨da, db, hdd⟩ := (HE7.out.quiet HF.out).dd
              have hin : i < (D3).n := by rw [HD3.out]; exact hlt
              have hsec := hdd.ok.rd i hin
              obtain ⟨s0, s1, s2, s3, s4, s5, s6, s7, hs⟩ := sec_lit hsec
              have CR := Lib.hid (dRead_yes i hin s0 s1 s2 s3 s4 s5 s6 s7 hs wr hdd)
              have Hsec := Lib.hid hsec
              have Hs := Lib.hid hs
              clear hdd hin hsec hs
              go_wp2_with fail
              refine CR.out.mono ?_
              rintro e w9 ⟨rfl, f9⟩
              have hb9 := Bk.made w9 41 #[.int .u64 s0, .int .u64 s1, .int .u64 s2, .int .u64 s3, .int .u64 s4, .int .u64 s5, .int .u64 s6, .int .u64 s7]
              have HB9 : Hid (Bk (w9.alloc (.cells #[.int .u64 s0, .int .u64 s1, .int .u64 s2, .int .u64 s3, .int .u64 s4, .int .u64 s5, .int .u64 s6, .int .u64 s7] 41)) w9.heap.size 41 (secA ((D3).rd i))) := Lib.hid (by rw [Hs.out]; exact hb9)
              have f10 := f9.alloc (.cells #[.int .u64 s0, .int .u64 s1, .int .u64 s2, .int .u64 s3, .int .u64 s4, .int .u64 s5, .int .u64 s6, .int .u64 s7] 41)
              have HO9 := Lib.hid (own_fr HO.out f10 (fun _ _ e => e))
              have HF9 := Lib.hid (HF.out.trans' f10 (fun _ _ e => e))
              clear hb9 f9 f10 CR Hs HO HF
              obtain ⟨wa, Hwa⟩ : ∃ wa, Hid (wa = w9.alloc (.cells #[.int .u64 s0, .int .u64 s1, .int .u64 s2, .int .u64 s3, .int .u64 s4, .int .u64 s5, .int .u64 s6, .int .u64 s7] 41)) := ⟨_, Lib.hid rfl⟩
              rw [← Hwa.out] at HB9 HO9 HF9
              generalize hbx : w9.heap.size = bx at *
              go_wp2
              rw [← Hwa.out]
              clear Hwa hbx
              go_loopw [20, 24] (fun ov kv wr => ∃ (k a : Nat) (A : Option Addr) (c : Nat), k ≤ 8 ∧ a = 8 * i + k ∧ kv = .int .i64 k ∧ ov = .slice A a c ∧ Hid (wr.ownsRow w7.heap.size 40 1 ov a (u64s (wdsTo D3.rd 0 a))) ∧ Hid (Fr No w7 wr) ∧ Hid (Bk wr bx 41 (secA ((D3).rd i)))) (fun _ kv _ => 8 - (intOf kv).toNat)
              case atStart => exact ⟨0, a, oA, oc, by omega, by have := Ha.out; omega, rfl, rfl, HO9, HF9, HB9⟩
              case round =>
                obtain ⟨k, b, B, c', hk, hb, rfl, rfl, HO2, HF2, HB2⟩ := hrel
                have HB := Lib.hid hb
                by_cases hk8 : k < 8
                · have hc := sec_word HB2.out Hsec.out hk8
                  have hv : ((D3).rd i).getD k 0 = wdS D3.rd 0 b := by
                    unfold wdS
                    rw [show b / 8 = i by omega, show b % 8 = k by omega, Nat.zero_add]
                  rw [hv] at hc
                  have Hn9 := Lib.hid (wdsTo_succ D3.rd 0 b)
                  generalize wdS D3.rd 0 b = u at *
                  clear hv hb
                  go_wp2_with (
                    at_builtin
                    refine append_word rfl _ _ rfl w7.heap.size B b c' (wdsTo D3.rd 0 b) u _ rfl rfl wr.heap.size rfl rfl HO2.out (by have := HB.out; omega) HF2.out.size ?_
                    intro A' c'' w' q1 q2 q3)
                  go_roundw
                  case rel =>
                    refine ⟨k + 1, b + 1, A', c'', by omega, by have := HB.out; omega, by go_num, by first | rfl | go_num, Lib.hid (by rw [Hn9.out]; exact q1), Lib.hid (HF2.out.trans' q2 (fun x hx e => ?_)), Lib.hid (HB2.out.fr q2 (own_apart HO2.out HB2.out (by decide)))⟩
                    have := (HO2.out.lt x e).1
                    omega
                  case measure => simp [intOf]; omega
                · obtain rfl : k = 8 := by omega
                  clear hb
                  go_wp2
                  go_roundw
                  case rel => exact ⟨i + 1, b, B, c', by omega, by have := HB.out; omega, by go_num, rfl, HO2, HF2⟩
                  case measure => simp [intOf]; omega
            · obtain rfl : i = n := by omega
              obtain rfl : a = 8 * i := Ha.out
              clear Ha
              have hsl9 := Sl.ofOwn HO.out
              have hsh9 := own_shape HO.out
              obtain ⟨A9, c9, hv9, h91, h92, -⟩ := hsh9
              injection hv9 with e91 e92 e93
              subst e93
              have H64 := partW_lt (f := D3.rd) (q := 0) (n := i) (fun j hj => by obtain ⟨da, db, hdd⟩ := HE7.out.dd; exact hdd.ok.rd _ (by rw [HD3.out]; omega))
              have CL := Lib.hid (refAllN_any 1 (partW D3.rd 0 i) H64 (8 * i) oA oc wr hsl9 (partW_len _ _ _) h91 h92 (by omega))
              have HF9 := HF
              clear hsl9 e91 e92 HO HF H64
              go_wp2_with fail
              refine CL.out.mono ?_
              rintro e w10 ⟨ts, tA, tc, tk, rfl, htold, hfo, hnx⟩
              have hts := (htold.uniq HT3.out).1
              have hfs10 := hfo.frs
              have hcap := hfo.cap
              obtain ⟨tn, Htn⟩ : ∃ tn, Hid (ts.length = tn) := ⟨_, Lib.hid rfl⟩
              have f10 := HF9.out.trans' hfo.fr (fun _ _ e => e)
              have HTs := Lib.hid hts
              have hsy : sy ≤ zn := by
                obtain ⟨D0, M0, g1, g2, g3, g4⟩ := HS.out.is
                have hq0 : M0.q = 0 := by rw [← g1.q]; exact HMx.out.2.1
                have hn0 : M0.n = i := by rw [← g1.n]; exact HMx.out.2.2.1
                have he0 : M0.ep = 1 := by rw [← g1.ep]; exact HMx.out.2.2.2.1
                have hc0 := HC.out
                rw [← hq0, ← hn0, ← he0] at hc0
                have h9 := (grew_lasts g1 g2 g3 HIv.out keep hc0).1
                rw [g4, ← Hzn.out, ← List.length_map (f := FrV.f), HZf.out]
                exact h9
              have hb10 : zn ≤ 1099511627776 ∧ tn ≤ 1099511627776 := by
                have h1 := HT3.out.1
                have h2 := (stepsF_stream (partW_lt (f := D3.rd) (q := 0) (n := i) (fun j hj => by obtain ⟨da, db, hdd⟩ := HE7.out.dd; exact hdd.ok.rd _ (by rw [HD3.out]; omega))) h1).1
                have h3 := streamF_len 1 0 fs
                rw [← h2, List.length_take, partW_len] at h3
                have h4 : zn = fs.length := by rw [← Hzn.out, ← List.length_map (f := FrV.f), HZf.out]
                have h5 : tn = fs.length := by rw [← Htn.out, ← List.length_map (f := FrV.f), hts]
                omega
              rw [Htn.out] at hcap ⊢
              have htc : tc ≤ 9223372036854775807 := hcap.2
              have CM := Lib.hid (refSame6_any zs ts gA tA zn tn gc tc w10 (HZ.out.since f10) hfs10 Hzn.out Htn.out hb10.1 hb10.2)
              have HZt : Hid (zs.map FrV.f = ts.map FrV.f) := Lib.hid (by rw [HZf.out, hts])
              have Hts10 := Lib.hid hfs10
              have HL10 := Lib.hid (HL7.out.quiet f10)
              have F10 := Lib.hid ((FB.out.trans' HE7.out.fr (fun _ _ e => e)).trans' f10 (fun _ _ e => e))
              clear htold hfo hnx hts hfs10 f10 CL HE7 HL7 HT3 HTs HF9
              go_wp2_with fail
              refine CM.out.mono ?_
              rintro e w11 ⟨⟨bb, rfl, hbb⟩, hf11⟩
              obtain rfl : bb = true := hbb.2 HZt.out
              have F11 := Lib.hid (F10.out.trans' hf11 (fun _ _ e => e))
              have Hsd := Lib.hid (decide_eq_true (show (sy : Int) ≤ (zn : Int) by omega))
              by_cases hgt : nn < tn
              · have d9 := decide_eq_true (show (nn : Int) < (tn : Int) by omega)
                clear CM hbb F10 Hts10 HL10
                go_wp2
                go_ret
                exact ⟨rfl, F11.out⟩
              · have d9 := decide_eq_false (show ¬ (nn : Int) < (tn : Int) by omega)
                have CQ := Lib.hid (refSame6_any ts (gs.take tn) tA A tn tn tc c w11 (Hts10.out.since hf11) ((HL10.out.quiet hf11).frs.take8 tn) Htn.out (by rw [List.length_take, HL10.out.len]; omega) hb10.2 hb10.2)
                have hd9 := Hsd.out
                clear CM hbb F10 Hts10 HL10 hf11
                go_wp2_with fail
                refine CQ.out.mono ?_
                rintro e w12 ⟨⟨b2, rfl, hb2⟩, hf12⟩
                have F12 := Lib.hid (F11.out.trans' hf12 (fun _ _ e => e))
                clear CQ hb2 hf12 F11
                cases b2 with
                | true =>
                  go_wp2
                  go_ret
                  exact ⟨by first | rfl | simp; omega, F12.out⟩
                | false =>
                  go_wp2
                  go_ret
                  exact ⟨rfl, F12.out⟩
  · by_cases h31 : n1 ≤ 30
    · have d1 := decide_eq_false (show ¬ (30 : Int) < (n1 : Int) by omega)
      have d2 := decide_eq_true (show (30 : Int) < (n2 : Int) by omega)
      clear hx hy hk h30
      go_enter Try.func4, Try.ntmps4
      go_wp2_with fail
      refine (C0.out _).mono ?_
      rintro e wb ⟨rfl, f1⟩
      go_wp2
      go_ret
      exact ⟨rfl, f1⟩
    · have d1 := decide_eq_true (show (30 : Int) < (n1 : Int) by omega)
      clear hx hy hk h30
      go_enter Try.func4, Try.ntmps4
      go_wp2_with fail
      refine (C0.out _).mono ?_
      rintro e wb ⟨rfl, f1⟩
      go_wp2
      go_ret
      exact ⟨rfl, f1⟩
end Go.Proofs.Ytdmllfjeofiddaa
