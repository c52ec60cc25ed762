/- The law 'LogAgain'. -/
import Derived.Test.YtdmllfjeofiddaaAl8
namespace Go.Proofs.Ytdmllfjeofiddaa
open Go.RowKit

set_option maxRecDepth 100000 in
set_option maxHeartbeats 8000000 in
theorem lawAgain8_any (se : Nat) (hse : se < 256) (xs : List FrV) (n1 : Nat) (A1 : Option Addr) (c1 : Nat) (w : World) (hx : Frs w A1 xs) (hn1 : xs.length = n1) (hc1 : n1 ≤ c1) (hc1m : c1 ≤ maxLen) :
    Calls Try.prog 5 #[.int .u8 se, .slice A1 n1 c1] w fun e w' => e = .returned (.bool true) ∧ Fr No w w' := by
  have hcl1 : c1 ≤ 9223372036854775807 := hc1m
  have C0 := Lib.hid alive8_any
  by_cases h31 : n1 ≤ 30
  · have d1 := decide_eq_false (show ¬ (30 : Int) < (n1 : Int) by omega)
    have HX := Lib.hid (fun W (hW : Fr No w W) => hx.since hW)
    have Hn1 := Lib.hid hn1
    clear hx hn1
    go_enter Try.func5, Try.ntmps5
    go_wp2_with fail
    refine (C0.out _).mono ?_
    rintro e wb ⟨rfl, f1⟩
    have FB := Lib.hid f1
    have Hxa : Hid (∀ x ∈ xs, ∀ k, xB x k → k < wb.heap.size) := Lib.hid (fun x hx k hk => Nat.lt_of_lt_of_le ((HX.out w (Fr.refl _ _)).arg x hx k hk) FB.out.size)
    clear f1 C0
    obtain ⟨n, Hn⟩ : ∃ n : Nat, Hid (n = se % 30 + 1) := ⟨_, Lib.hid rfl⟩
    have hn30 : 1 ≤ n ∧ n ≤ 30 := by have := Hn.out; omega
    have e1 : (se : Int) % 30 + 1 = (n : Int) := by have := Hn.out; omega
    have e0 : wrap64 ((se : Int) % 30) = (se : Int) % 30 := by unfold wrap64; omega
    go_wp2_with fail
    refine (dNew_yes n (by omega) (by omega) wb).mono ?_
    rintro e w1 ⟨S1, d, rfl, hD1, hS1⟩
    have E1 := Env.begin (Fr.refl No wb) hD1 hS1
    have CO := Lib.hid (lOpen_yes 0 n (show 0 + n ≤ (Dv.new n).n by show 0 + n ≤ n; omega) hn30.1 5 (by decide) w1 E1.dd)
    have HO : Hid (∀ e w2, LOpen S1 d (Dv.new n) 0 n 5 w1 e w2 → _) := Lib.hid (fun e w2 hO => LE.opened (w0 := wb) (e := e) (w' := w2) (show 0 + n ≤ (Dv.new n).n by show 0 + n ≤ n; omega) hn30.1 (by decide) E1.dd E1.new E1.fr hO)
    clear hD1 hS1 E1
    go_wp2_with fail
    refine CO.out.mono ?_
    rintro e w2 hO
    obtain ⟨S2, T2, l, k, fs, rfl, ht, hL⟩ := HO.out _ _ hO
    obtain ⟨rfl, rfl⟩ := told_new ht
    have HL0 := Lib.hid hL
    have HDn : Hid ((openD (Dv.new n) 0 n 0).n = n) := Lib.hid (openD_n _ _ _ _)
    clear hO ht CO hL HO
    go_wp2
    go_loopw [9] (fun iv wr => ∃ (j : Nat) (S T : Nat → Prop) (D : Dv) (M : Lg), j ≤ n1 ∧ iv = .int .i64 j ∧ Hid (LE wb wr S T d l D M) ∧ Hid (M.q = 0 ∧ M.n = n ∧ M.ep = 5 ∧ D.n = n)) (fun iv _ => n1 - (intOf iv).toNat)
    case atStart => exact ⟨0, S2, T2, _, _, by omega, rfl, HL0, Lib.hid ⟨rfl, rfl, rfl, HDn.out⟩⟩
    case round =>
      obtain ⟨j, S, T, D, M, hj, rfl, HE, HM⟩ := hrel
      by_cases hlt : j < n1
      · have hxs := HX.out wr (FB.out.trans' HE.out.fr (fun _ _ e => e))
        have hjl : j < xs.length := by rw [Hn1.out]; exact hlt
        have hfit0 := hxs.fit xs[j] (List.getElem_mem hjl)
        obtain ⟨ad, rfl, hadB, k0, k1⟩ := hxs.at hjl
        generalize xs[j] = x at *
        obtain ⟨kd, xA, xw, xc⟩ := x
        obtain ⟨z, Hz⟩ : ∃ z, Hid (xw.length = z) := ⟨_, Lib.hid rfl⟩
        have hcells : FrV.agg ⟨kd, xA, xw, xc⟩ = .agg #[.int .i64 kd, .slice xA z xc] := by unfold FrV.agg; rw [Hz.out]
        simp only at k0 k1
        rw [Hz.out] at k1
        obtain ⟨ds3, ds4, hds⟩ := HE.out.dd
        have CA0 := lAppend_any ⟨kd, xA, xw, xc⟩ wr hds HE.out.lo HE.out.ap HE.out.inv hfit0
        rw [hcells] at CA0
        have CA := Lib.hid CA0
        have Hds : Hid ((appDv D M (FrV.f ⟨kd, xA, xw, xc⟩)).n = n) := Lib.hid (by rw [appDv_n]; exact HM.out.2.2.2)
        have Hms := Lib.hid (appM_same M (FrV.f ⟨kd, xA, xw, xc⟩))
        clear hfit0 hadB hcells hds CA0 hxs hjl HL0 HDn
        by_cases hz4 : z ≤ 400
        · have q7 := decide_eq_false (show ¬ (400 : Int) < (z : Int) by omega)
          go_wp2_with fail
          refine CA.out.mono ?_
          rintro e w5 hA
          obtain ⟨rfl, S5, T5, hE5⟩ := HE.out.app hA
          have HE5 := Lib.hid hE5
          clear hA hE5 HE CA k0 k1
          go_wp2
          go_roundw
          case rel => exact ⟨j + 1, S5, T5, _, _, by omega, by go_num, HE5, Lib.hid ⟨Hms.out.1.trans HM.out.1, Hms.out.2.1.trans HM.out.2.1, Hms.out.2.2.trans HM.out.2.2.1, Hds.out⟩⟩
          case measure => simp [intOf]; omega
        · have q7 := decide_eq_true (show (400 : Int) < (z : Int) by omega)
          have Hend := Lib.hid (FB.out.trans' HE.out.fr (fun _ _ e => e))
          clear CA HE
          go_wp2
          go_ret
          exact ⟨rfl, Hend.out⟩
      · obtain rfl : j = n1 := by omega
        obtain ⟨da, db, hdd⟩ := HE.out.dd
        have hM : M = ⟨0, n, 5, M.L⟩ := by
          obtain ⟨q, n', ep, L⟩ := M
          obtain ⟨m1, m2, m3, m4⟩ := HM.out
          simp only at m1 m2 m3
          rw [m1, m2, m3]
        have hq5 : 0 + n ≤ D.n := by rw [HM.out.2.2.2]; omega
        have CO := Lib.hid (lOpen_yes 0 n hq5 hn30.1 5 (by decide) wr hdd)
        have HO : Hid (∀ e w6, LOpen S d D 0 n 5 wr e w6 → _) := Lib.hid (fun e w6 hO => LE.opened' (w0 := wb) (e := e) (w' := w6) hq5 hn30.1 (by decide) hdd HE.out.sn HE.out.fr hO)
        have Hq5 := Lib.hid hq5
        clear hdd hlt hj HL0 HDn hq5
        go_wp2_with fail
        refine CO.out.mono ?_
        rintro e w6 hO
        obtain ⟨S6, T6, l6, k6, fs6, rfl, ht, hE6, hS6, hT6⟩ := HO.out _ _ hO
        have htold := HE.out.inv.told
        rw [HM.out.1, HM.out.2.1, HM.out.2.2.1] at htold
        obtain ⟨rfl, -⟩ := ht.uniq htold
        rw [← hM] at hE6
        have HA6 : Hid (LO w6 T l d M ∧ ∀ k, T k → ¬ S6 k) := Lib.hid ⟨HE.out.lo.fr hS6.fr HE.out.ap, fun k hk e => by rcases hS6.grow k e with e2 | e2; (exact HE.out.ap k hk e2); (have := HE.out.lo.lt k hk; omega)⟩
        have Hu := Lib.hid (HE.out.inv.used_le)
        have Hsm := Lib.hid (HE.out.inv.small)
        have HE6 := Lib.hid hE6
        obtain ⟨da, db, hdd⟩ := hE6.dd
        have CP := Lib.hid (lOpen_yes 0 n (show 0 + n ≤ (openD D 0 n k6).n by rw [openD_n]; exact Hq5.out) hn30.1 6 (by decide) w6 hdd)
        have HP : Hid (∀ e w7, LOpen S6 d (openD D 0 n k6) 0 n 6 w6 e w7 → _) := Lib.hid (fun e w7 hO => LE.opened' (w0 := wb) (e := e) (w' := w7) (show 0 + n ≤ (openD D 0 n k6).n by rw [openD_n]; exact Hq5.out) hn30.1 (by decide) hdd HE6.out.sn HE6.out.fr hO)
        clear hO ht htold hE6 hS6 hT6 CO HO hM hdd HE
        go_wp2_with fail
        refine CP.out.mono ?_
        rintro e w7 hO
        obtain ⟨S7, T7, l7, k7, fs7, rfl, ht, hE7, hS7, hT7⟩ := HP.out _ _ hO
        have HA7 := Lib.hid (HA6.out.1.fr hS7.fr HA6.out.2)
        have HB7 := Lib.hid (HE6.out.lo.fr hS7.fr HE6.out.ap)
        have HD3n : Hid ((openD (openD D 0 n k6) 0 n k7).n = n) := Lib.hid (by rw [openD_n, openD_n]; exact HM.out.2.2.2)
        have HT3 := Lib.hid hE7.inv.told
        have HE7 := Lib.hid hE7
        clear hO ht hE7 hS7 hT7 CP HP HA6 HE6
        obtain ⟨D3, HDD⟩ : ∃ D3, Hid (openD (openD D 0 n k6) 0 n k7 = D3) := ⟨_, Lib.hid rfl⟩
        rw [HDD.out] at HD3n HT3 HE7
        have HD3 := HD3n
        clear HD3n HDD
        have CF := Lib.hid (lFrames_any w7 HA7.out)
        go_wp2_with fail
        refine CF.out.mono ?_
        rintro e w8 ⟨gA, gc, zs, rfl, hz1, hz2, hz3, hz4, hz5, hz6⟩
        have CG := Lib.hid (lFrames_any w8 (HB7.out.fr hz5 (fun _ _ e => e)))
        have Hz1 := Lib.hid hz1
        have Hz2 := Lib.hid hz2
        have Hz5 := Lib.hid hz5
        clear hz1 hz2 hz3 hz4 hz5 hz6 CF
        go_wp2_with fail
        refine CG.out.mono ?_
        rintro e w9 ⟨hA', hc', ys, rfl, hy1, hy2, hy3, hy4, hy5, hy6⟩
        have hzl : zs.length ≤ 32768 ∧ ys.length = zs.length := by
          have h1 : zs.length = M.L.length := by rw [← Hz1.out, List.length_map]
          have h2 : ys.length = M.L.length := by rw [← hy1, List.length_map]
          have h3 := streamF_len M.ep 0 M.L
          have h4 := Hu.out
          have h5 := Hsm.out
          unfold Lg.used at h4
          omega
        have CS := Lib.hid (refSame6_any zs ys gA hA' zs.length ys.length gc hc' w9 (Hz2.out.since hy5) hy2 rfl rfl (by omega) (by omega))
        have HZy : Hid (zs.map FrV.f = ys.map FrV.f) := Lib.hid (by rw [Hz1.out, hy1])
        have f9 := Hz5.out.trans' hy5 (fun _ _ e => e)
        have Hf9 := Lib.hid f9
        generalize zs.length = zl at *
        generalize ys.length = yl at *
        clear hy1 hy2 hy3 hy4 hy5 hy6 CG hzl f9 Hz1 Hz2 Hz5
        go_wp2_with fail
        refine CS.out.mono ?_
        rintro e w10 ⟨⟨bb, rfl, hbb⟩, hf10⟩
        obtain rfl : bb = true := hbb.2 HZy.out
        have f10 := Hf9.out.trans' hf10 (fun _ _ e => e)
        have CR := Lib.hid (lRoom_any w10 (HA7.out.fr f10 (fun _ _ e => e)) Hu.out Hsm.out)
        have Hf10 := Lib.hid f10
        clear CS hbb hf10 f10 HZy Hf9
        go_wp2_with fail
        refine CR.out.mono ?_
        rintro e w11 ⟨rfl, hf11⟩
        have f11 := Hf10.out.trans' hf11 (fun _ _ e => e)
        have CT := Lib.hid (lRoom_any w11 (HB7.out.fr f11 (fun _ _ e => e)) Hu.out Hsm.out)
        have Hf11 := Lib.hid f11
        clear CR hf11 f11 Hf10
        go_wp2_with fail
        refine CT.out.mono ?_
        rintro e w12 ⟨rfl, hf12⟩
        have HE12 := Lib.hid (HE7.out.quiet (Hf11.out.trans' hf12 (fun _ _ e => e)))
        clear CT hf12 Hf11 HE7 HA7 HB7
        generalize (8 * M.n - M.used : Nat) = rm at *
        go_wp2
        go_loopw [14, 15] (fun ov iv wr => ∃ (i a : Nat) (A : Option Addr) (c : Nat), i ≤ n ∧ a = 8 * i ∧ iv = .int .i64 i ∧ ov = .slice A a c ∧ Hid (wr.ownsRow w12.heap.size 40 1 ov a (u64s (wdsTo D3.rd 0 a))) ∧ Hid (Fr No w12 wr)) (fun _ iv _ => n - (intOf iv).toNat)
        case atStart => exact ⟨0, 0, none, 0, by omega, rfl, rfl, rfl, Lib.hid (World.ownsRow_nil _ _ _ _), Lib.hid (Fr.refl _ _)⟩
        case round =>
          obtain ⟨i, a, oA, oc, hi, ha, rfl, rfl, HO, HF⟩ := hrel
          have Ha := Lib.hid ha
          clear ha
          by_cases hlt : i < n
          · obtain ⟨da, db, hdd⟩ := (HE12.out.quiet HF.out).dd
            have hin : i < (D3).n := by rw [HD3.out]; exact hlt
            have hsec := hdd.ok.rd i hin
            obtain ⟨s0, s1, s2, s3, s4, s5, s6, s7, hs⟩ := sec_lit hsec
            have CR := Lib.hid (dRead_yes i hin s0 s1 s2 s3 s4 s5 s6 s7 hs wr hdd)
            have Hsec := Lib.hid hsec
            have Hs := Lib.hid hs
            clear hdd hin hsec hs
            go_wp2_with fail
            refine CR.out.mono ?_
            rintro e w9 ⟨rfl, f9⟩
            have hb9 := Bk.made w9 41 #[.int .u64 s0, .int .u64 s1, .int .u64 s2, .int .u64 s3, .int .u64 s4, .int .u64 s5, .int .u64 s6, .int .u64 s7]
            have HB9 : Hid (Bk (w9.alloc (.cells #[.int .u64 s0, .int .u64 s1, .int .u64 s2, .int .u64 s3, .int .u64 s4, .int .u64 s5, .int .u64 s6, .int .u64 s7] 41)) w9.heap.size 41 (secA ((D3).rd i))) := Lib.hid (by rw [Hs.out]; exact hb9)
            have f10 := f9.alloc (.cells #[.int .u64 s0, .int .u64 s1, .int .u64 s2, .int .u64 s3, .int .u64 s4, .int .u64 s5, .int .u64 s6, .int .u64 s7] 41)
            have HO9 := Lib.hid (own_fr HO.out f10 (fun _ _ e => e))
            have HF9 := Lib.hid (HF.out.trans' f10 (fun _ _ e => e))
            clear hb9 f9 f10 CR Hs HO HF
            obtain ⟨wa, Hwa⟩ : ∃ wa, Hid (wa = w9.alloc (.cells #[.int .u64 s0, .int .u64 s1, .int .u64 s2, .int .u64 s3, .int .u64 s4, .int .u64 s5, .int .u64 s6, .int .u64 s7] 41)) := ⟨_, Lib.hid rfl⟩
            rw [← Hwa.out] at HB9 HO9 HF9
            generalize hbx : w9.heap.size = bx at *
            go_wp2
            rw [← Hwa.out]
            clear Hwa hbx
            go_loopw [14, 18] (fun ov kv wr => ∃ (k a : Nat) (A : Option Addr) (c : Nat), k ≤ 8 ∧ a = 8 * i + k ∧ kv = .int .i64 k ∧ ov = .slice A a c ∧ Hid (wr.ownsRow w12.heap.size 40 1 ov a (u64s (wdsTo D3.rd 0 a))) ∧ Hid (Fr No w12 wr) ∧ Hid (Bk wr bx 41 (secA ((D3).rd i)))) (fun _ kv _ => 8 - (intOf kv).toNat)
            case atStart => exact ⟨0, a, oA, oc, by omega, by have := Ha.out; omega, rfl, rfl, HO9, HF9, HB9⟩
            case round =>
              obtain ⟨k, b, B, c', hk, hb, rfl, rfl, HO2, HF2, HB2⟩ := hrel
              have HB := Lib.hid hb
              by_cases hk8 : k < 8
              · have hc := sec_word HB2.out Hsec.out hk8
                have hv : ((D3).rd i).getD k 0 = wdS D3.rd 0 b := by
                  unfold wdS
                  rw [show b / 8 = i by omega, show b % 8 = k by omega, Nat.zero_add]
                rw [hv] at hc
                have Hn9 := Lib.hid (wdsTo_succ D3.rd 0 b)
                generalize wdS D3.rd 0 b = u at *
                clear hv hb
                go_wp2_with (
                  at_builtin
                  refine append_word rfl _ _ rfl w12.heap.size B b c' (wdsTo D3.rd 0 b) u _ rfl rfl wr.heap.size rfl rfl HO2.out (by have := HB.out; omega) HF2.out.size ?_
                  intro A' c'' w' q1 q2 q3)
                go_roundw
                case rel =>
                  refine ⟨k + 1, b + 1, A', c'', by omega, by have := HB.out; omega, by go_num, by first | rfl | go_num, Lib.hid (by rw [Hn9.out]; exact q1), Lib.hid (HF2.out.trans' q2 (fun x hx e => ?_)), Lib.hid (HB2.out.fr q2 (own_apart HO2.out HB2.out (by decide)))⟩
                  have := (HO2.out.lt x e).1
                  omega
                case measure => simp [intOf]; omega
              · obtain rfl : k = 8 := by omega
                clear hb
                go_wp2
                go_roundw
                case rel => exact ⟨i + 1, b, B, c', by omega, by have := HB.out; omega, by go_num, rfl, HO2, HF2⟩
                case measure => simp [intOf]; omega
          · obtain rfl : i = n := by omega
            obtain rfl : a = 8 * i := Ha.out
            clear Ha
            have hsl9 := Sl.ofOwn HO.out
            have hsh9 := own_shape HO.out
            obtain ⟨A9, c9, hv9, h91, h92, -⟩ := hsh9
            injection hv9 with e91 e92 e93
            subst e93
            have H64 := partW_lt (f := D3.rd) (q := 0) (n := i) (fun j hj => by obtain ⟨da, db, hdd⟩ := HE12.out.dd; exact hdd.ok.rd _ (by rw [HD3.out]; omega))
            have CL := Lib.hid (refAllN_any 6 (partW D3.rd 0 i) H64 (8 * i) oA oc wr hsl9 (partW_len _ _ _) h91 h92 (by omega))
            have HF9 := HF
            clear hsl9 e91 e92 HO HF H64
            go_wp2_with fail
            refine CL.out.mono ?_
            rintro e w14 ⟨ts, tA, tc, tk, rfl, htold, hfo, hnx⟩
            have hts := (htold.uniq HT3.out).1
            have htl : ts.length ≤ 32768 := by
              have h3 := streamF_len 6 0 fs7
              have h4 := HE12.out.inv.used_le
              have h5 := HE12.out.inv.small
              unfold Lg.used at h4
              have h6 : ts.length = fs7.length := by rw [← List.length_map (f := FrV.f), hts]
              simp only at h4 h5
              omega
            have f14 := HF9.out.trans' hfo.fr (fun _ _ e => e)
            have CF := Lib.hid (lFrames_any w14 (HE12.out.lo.fr f14 (fun _ _ e => e)))
            have HTs := Lib.hid hts
            have HTf := Lib.hid hfo.frs
            have F14 := Lib.hid ((FB.out.trans' HE12.out.fr (fun _ _ e => e)).trans' f14 (fun _ _ e => e))
            obtain ⟨tl, Htl⟩ : ∃ tl, Hid (ts.length = tl) := ⟨_, Lib.hid rfl⟩
            rw [Htl.out] at htl ⊢
            clear htold hfo hnx hts f14 CL HE12 HT3 HF9
            go_wp2_with fail
            refine CF.out.mono ?_
            rintro e w15 ⟨gA, gc, zs, rfl, hz1, hz2, hz3, hz4, hz5, hz6⟩
            have hzl : zs.length = tl := by rw [← Htl.out, ← List.length_map (f := FrV.f), hz1, ← HTs.out, List.length_map]
            have CS := Lib.hid (refSame6_any zs ts gA tA zs.length tl gc tc w15 hz2 (HTf.out.since hz5) rfl Htl.out (by omega) (by omega))
            have HZy : Hid (zs.map FrV.f = ts.map FrV.f) := Lib.hid (by rw [hz1, HTs.out])
            have F15 := Lib.hid (F14.out.trans' hz5 (fun _ _ e => e))
            generalize zs.length = zl at *
            clear hz1 hz2 hz3 hz4 hz5 hz6 CF hzl HTs HTf F14
            go_wp2_with fail
            refine CS.out.mono ?_
            rintro e w16 ⟨⟨bb, rfl, hbb⟩, hf16⟩
            obtain rfl : bb = true := hbb.2 HZy.out
            have F16 := Lib.hid (F15.out.trans' hf16 (fun _ _ e => e))
            clear CS hbb hf16 F15
            go_wp2
            go_ret
            exact ⟨rfl, F16.out⟩
  · have d1 := decide_eq_true (show (30 : Int) < (n1 : Int) by omega)
    clear hx
    go_enter Try.func5, Try.ntmps5
    go_wp2_with fail
    refine (C0.out _).mono ?_
    rintro e wb ⟨rfl, f1⟩
    go_wp2
    go_ret
    exact ⟨rfl, f1⟩
end Go.Proofs.Ytdmllfjeofiddaa
