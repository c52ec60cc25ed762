/- The law 'LogLost'. -/
import Derived.Test.YtdmllfjeofiddaaJo8
import Derived.Test.YtdmllfjeofiddaaHand
namespace Go.Proofs.Ytdmllfjeofiddaa
open Go.RowKit

/-- One frame of a list. -/
theorem Frs.one {w : World} {ad : Addr} {xs : List FrV} (h : Frs w (some ad) xs) {i : Nat} (hi : i < xs.length) : Frs w (some (ad.add (i * 2))) [xs[i]] := by
  refine ⟨fun _ => ?_, fun x hx => by rw [List.mem_singleton.1 hx]; exact h.fit _ (List.getElem_mem hi)⟩
  obtain ⟨ad', e, hb, hc⟩ := h.sl (by
    intro e0
    have := congrArg List.length e0
    rw [flat_len FrV.cells 2 FrV.cells_len] at this
    simp only [List.length_nil] at this
    omega)
  injection e with e
  subst e
  refine ⟨_, rfl, by rw [block_add]; exact hb, fun j u hu => ?_⟩
  rw [add_add']
  have hj : j < 2 := by
    have := (List.getElem?_eq_some_iff.1 hu).1
    simpa [FrV.cells] using this
  refine hc _ u ?_
  rw [flat_at FrV.cells 2 FrV.cells_len xs i j hi hj]
  simpa using hu
set_option maxRecDepth 100000 in
set_option maxHeartbeats 8000000 in
theorem lawLost8_any (se : Nat) (hse : se < 256) (xs ys : List FrV) (n1 n2 : Nat) (A1 A2 : Option Addr) (c1 c2 : Nat) (keep other : List Bool) (kn on : Nat) (Ak Ao : Option Addr) (ck co : Nat) (w : World) (hx : Frs w A1 xs) (hy : Frs w A2 ys) (hn1 : xs.length = n1) (hn2 : ys.length = n2) (hc1 : n1 ≤ c1) (hc1m : c1 ≤ maxLen) (hc2 : n2 ≤ c2) (hc2m : c2 ≤ maxLen) (hk : Sl w w.heap.size Ak (bools keep)) (hkn : keep.length = kn) (hck : kn ≤ ck) (hckm : ck ≤ maxLen) (ho : Sl w w.heap.size Ao (bools other)) (hon : other.length = on) (hco : on ≤ co) (hcom : co ≤ maxLen) :
    Calls Try.prog 6 #[.int .u8 se, .slice A1 n1 c1, .slice A2 n2 c2, .slice Ak kn ck, .slice Ao on co] w fun e w' => e = .returned (.bool true) ∧ Fr No w w' := by
  have hcl1 : c1 ≤ 9223372036854775807 := hc1m
  have hcl2 : c2 ≤ 9223372036854775807 := hc2m
  have hcl3 : ck ≤ 9223372036854775807 := hckm
  have hcl4 : co ≤ 9223372036854775807 := hcom
  have C0 := Lib.hid alive8_any
  by_cases h1 : n1 ≤ 20
  · have eh1 := decide_eq_false (show ¬ (20 : Int) < (n1 : Int) by omega)
    by_cases h2 : n2 ≤ 20
    · have eh2 := decide_eq_false (show ¬ (20 : Int) < (n2 : Int) by omega)
      by_cases h3 : kn ≤ 100
      · have eh3 := decide_eq_false (show ¬ (100 : Int) < (kn : Int) by omega)
        by_cases h4 : on ≤ 100
        · have eh4 := decide_eq_false (show ¬ (100 : Int) < (on : Int) by omega)
          have HX := Lib.hid (fun W (hW : Fr No w W) => hx.since hW)
          have HY := Lib.hid (fun W (hW : Fr No w W) => hy.since hW)
          have HK := Lib.hid (fun W (hW : Fr No w W) => hk.since hW)
          have HO := Lib.hid (fun W (hW : Fr No w W) => ho.since hW)
          have Hn1 := Lib.hid hn1
          have Hn2 := Lib.hid hn2
          have Hkn := Lib.hid hkn
          have Hon := Lib.hid hon
          have Hxa0 := Lib.hid hx.arg
          have Hya0 := Lib.hid hy.arg
          clear hx hy hk ho hn1 hn2 hkn hon
          go_enter Try.func6, Try.ntmps6
          go_wp2_with fail
          refine (C0.out _).mono ?_
          rintro e wb ⟨rfl, f1⟩
          have FB := Lib.hid f1
          have Hxa : Hid (∀ x ∈ xs, ∀ k, xB x k → k < wb.heap.size) := Lib.hid (fun x hx k hk => Nat.lt_of_lt_of_le (Hxa0.out x hx k hk) FB.out.size)
          have Hya : Hid (∀ x ∈ ys, ∀ k, xB x k → k < wb.heap.size) := Lib.hid (fun x hx k hk => Nat.lt_of_lt_of_le (Hya0.out x hx k hk) FB.out.size)
          clear f1 C0 Hxa0 Hya0
          obtain ⟨n, Hn⟩ : ∃ n : Nat, Hid (n = se % 20 + 1) := ⟨_, Lib.hid rfl⟩
          have hn20 : 1 ≤ n ∧ n ≤ 20 := by have := Hn.out; omega
          have e1 : (se : Int) % 20 + 1 = (n : Int) := by have := Hn.out; omega
          go_wp2_with fail
          refine (dNew_yes n (by omega) (by omega) wb).mono ?_
          rintro e w1 ⟨S1, d, rfl, hD1, hS1⟩
          have E1 := Lib.hid (Env.begin (Fr.refl No wb) hD1 hS1)
          clear hD1 hS1
          go_wp2_with fail
          refine (refNew3_any n (by omega) w1).mono ?_
          rintro e w2 ⟨r, gl, gr, gd, rfl, hR2, hr2, hf2⟩
          have hK2 : JK wb w2 S1 d r gl gr gd (Dv.new n) (Dv.new n) := by
            have hq := E1.out.quiet hf2
            exact ⟨⟨_, _, hq.dd⟩, hq.new, hq.fr, hR2, fun k hk => Nat.le_trans E1.out.fr.size (hr2 k hk), fun k hk e => by have := E1.out.dd.lt k hk; have := hr2 k e; omega⟩
          have hq2 : 0 + n ≤ (Dv.new n).n := by show 0 + n ≤ n; omega
          obtain ⟨da, db, hdd⟩ := hK2.dd
          have CO := Lib.hid (lOpen_yes 0 n hq2 hn20.1 1 (by decide) w2 hdd)
          have HK2 := Lib.hid hK2
          have Hq2 := Lib.hid hq2
          clear hR2 hr2 hf2 hK2 hdd hq2 E1
          go_wp2_with fail
          refine CO.out.mono ?_
          rintro e w3 hO
          obtain ⟨S3, T3, l, k3, fs3, rfl, ht3, hP3, hS3, hT3⟩ := HK2.out.popen Hq2.out hn20.1 (by decide) hO
          obtain ⟨rfl, rfl⟩ := told_new ht3
          have CQ := Lib.hid (refOpen8_any r gl gr gd (Dv.new n) 0 n 1 Hq2.out (by show n ≤ 4096; omega) w3 hP3.rd)
          have HP3 := Lib.hid hP3
          clear hO ht3 hP3 hS3 hT3 CO HK2
          go_wp2_with fail
          refine CQ.out.mono ?_
          rintro e w4 hO
          obtain ⟨B4, lg, k4, fs4, rfl, ht4, hJ4, hF4⟩ := HP3.out.ropen hO
          obtain ⟨rfl, rfl⟩ := told_new ht4
          have HJ0 := Lib.hid hJ4
          have HM0 : Hid ((0 : Nat) = 0 ∧ n = n ∧ (1 : Int) = 1 ∧ (openD (Dv.new n) 0 n 0).n = n) := Lib.hid ⟨rfl, rfl, rfl, openD_n _ _ _ _⟩
          clear hO ht4 hJ4 hF4 CQ HP3
          go_wp2
          go_loopw [17] (fun iv wr => ∃ (j : Nat) (S T B : Nat → Prop) (D : Dv) (M : Lg), j ≤ n1 ∧ iv = .int .i64 j ∧ Hid (JB wb wr S T B d l r gl gr gd lg D M D M) ∧ Hid (M.q = 0 ∧ M.n = n ∧ M.ep = 1 ∧ D.n = n)) (fun iv _ => n1 - (intOf iv).toNat)
          case atStart => exact ⟨0, _, _, _, _, _, by omega, rfl, HJ0, Lib.hid ⟨rfl, rfl, rfl, openD_n _ _ _ _⟩⟩
          case round =>
            obtain ⟨j, S, T, B, D, M, hj, rfl, HJ, HM⟩ := hrel
            by_cases hlt : j < n1
            · have hxs := HX.out wr (FB.out.trans' HJ.out.le.fr (fun _ _ e => e))
              have hjl : j < xs.length := by rw [Hn1.out]; exact hlt
              have hfit0 := hxs.fit xs[j] (List.getElem_mem hjl)
              have harg0 := Hxa.out xs[j] (List.getElem_mem hjl)
              have hatf := fun W (hW : Fr No w W) => (HX.out W hW).at hjl
              obtain ⟨ad, hadE, hadB, k0, k1⟩ := hxs.at hjl
              have hat2 : ∀ W, Fr No w W → W.cell? (ad.add (j * 2)) = some (.int .i64 xs[j].kind) ∧ W.cell? ⟨(ad.add (j * 2)).block, (ad.add (j * 2)).off + 1, none⟩ = some (.slice xs[j].A xs[j].ws.length xs[j].c) := fun W hW => by
                obtain ⟨ad', e', -, h1, h2⟩ := hatf W hW
                rw [hadE] at e'
                injection e' with e'
                subst e'
                exact ⟨h1, h2⟩
              subst hadE
              generalize xs[j] = x at *
              obtain ⟨kd, xA, xw, xc⟩ := x
              obtain ⟨z, Hz⟩ : ∃ z, Hid (xw.length = z) := ⟨_, Lib.hid rfl⟩
              have hcells : FrV.agg ⟨kd, xA, xw, xc⟩ = .agg #[.int .i64 kd, .slice xA z xc] := by unfold FrV.agg; rw [Hz.out]
              simp only at k0 k1 hat2
              rw [Hz.out] at k1 hat2
              obtain ⟨ds3, ds4, hds⟩ := HJ.out.le.dd
              have CA0 := lAppend_any ⟨kd, xA, xw, xc⟩ wr hds HJ.out.le.lo HJ.out.le.ap HJ.out.le.inv hfit0
              rw [hcells] at CA0
              have CA := Lib.hid CA0
              have Hat := Lib.hid hat2
              have Hcells := Lib.hid hcells
              have Harg := Lib.hid harg0
              have Hfit := Lib.hid hfit0
              have Hinv := Lib.hid HJ.out.le.inv
              have Hds : Hid ((appDv D M (FrV.f ⟨kd, xA, xw, xc⟩)).n = n) := Lib.hid (by rw [appDv_n]; exact HM.out.2.2.2)
              have Hms := Lib.hid (appM_same M (FrV.f ⟨kd, xA, xw, xc⟩))
              clear hfit0 harg0 hadB hcells hds CA0 hxs hjl HJ0 HM0 hatf hat2
              by_cases hz4 : z ≤ 400
              · have q7 := decide_eq_false (show ¬ (400 : Int) < (z : Int) by omega)
                go_wp2_with fail
                refine CA.out.mono ?_
                rintro e w5 hA
                have hfr5 := hA.2
                obtain ⟨sa, sb, sc, sd, -, -, hF5, -, -, -⟩ := hfr5
                have hfit5 := fit_frS Hfit.out hF5 (fun k hk e => by have h1 := Harg.out k hk; have h2 := HJ.out.le.since k e; omega)
                obtain ⟨rfl, S5, T5, hJ5⟩ := HJ.out.papp hA
                obtain ⟨k2, k3⟩ := Hat.out w5 (FB.out.trans' hJ5.le.fr (fun _ _ e => e))
                have CB0 := refAppend8_any r gl gr gd lg B D M ⟨kd, xA, xw, xc⟩ (by have := HM.out.2.2.2; omega) w5 hJ5.rd hJ5.rl Hinv.out hfit5 hJ5.br (fun k hk => ⟨fun e => by have h1 := Harg.out k hk; have h2 := hJ5.rn k e; omega, fun e => by have h1 := Harg.out k hk; have h2 := hJ5.ln; omega⟩)
                rw [Hcells.out] at CB0
                have CB := Lib.hid CB0
                have HJ5 := Lib.hid hJ5
                clear hA hF5 hJ5 hfit5 CB0 HJ CA k0 k1
                go_wp2_with fail
                refine CB.out.mono ?_
                rintro e w6 hA
                obtain ⟨rfl, B6, hJ6⟩ := HJ5.out.rapp Harg.out hA
                have HJ6 := Lib.hid hJ6
                clear hA hJ6 HJ5 CB k2 k3
                go_wp2
                go_roundw
                case rel => exact ⟨j + 1, S5, T5, B6, _, _, by omega, by go_num, HJ6, Lib.hid ⟨Hms.out.1.trans HM.out.1, Hms.out.2.1.trans HM.out.2.1, Hms.out.2.2.trans HM.out.2.2.1, Hds.out⟩⟩
                case measure => simp [intOf]; omega
              · have q7 := decide_eq_true (show (400 : Int) < (z : Int) by omega)
                have Hend := Lib.hid (FB.out.trans' HJ.out.le.fr (fun _ _ e => e))
                clear CA HJ
                go_wp2
                go_ret
                exact ⟨rfl, Hend.out⟩
            · obtain rfl : j = n1 := by omega
              have hK0 := HJ.out.devices
              obtain ⟨da, db, hdd⟩ := hK0.dd
              have hE0 : Env wb wr S d D da db := ⟨hdd, hK0.sn, hK0.fr⟩
              have CK := Lib.hid (keeps_any keep Ak kn ck wr (HK.out wr (FB.out.trans' hK0.fr (fun _ _ e => e))) Hkn.out)
              have HE0 := Lib.hid hE0
              have HK0 := Lib.hid hK0
              have HKw := Lib.hid (HK.out wb FB.out)
              have Hao : Hid (∀ ad, Ak = some ad → keep ≠ [] → ad.block < wb.heap.size) := Lib.hid (fun ad e hne => by
                obtain ⟨ad', e', hb9, _⟩ := HKw.out (by intro h0; apply hne; simpa [bools] using h0)
                rw [e] at e'
                injection e' with e'
                rw [e']
                exact hb9)
              clear hdd hE0 hK0 hlt hj
              go_wp2_with fail
              refine CK.out.mono ?_
              rintro e w4 ⟨kx, ky, rfl, hk, hkx, hky, hf⟩
              have hs4 := HE0.out.dd.lt
              have CC := Lib.hid (dCrash_any kx ky Ak kn ck keep w4 (HE0.out.quiet hf).dd hk (fun e => by have := hs4 _ e; omega) (fun e => by have := hs4 _ e; omega) (fun ad e hne e2 => by have h8 := Hao.out ad e hne; have h9 := HE0.out.new _ e2; omega) HE0.out.dd.small)
              clear hs4
              go_wp2_with fail
              refine CC.out.mono ?_
              rintro e w5 ⟨rfl, S5, hD, hfr, hg⟩
              have hS := keepCrash hf hkx hfr hg
              have hK5 := HK0.out.pstep hD hS
              have CX := Lib.hid (refCrash_any r gl gr gd D keep Ak kn ck w5 hK5.rd (by have := HM.out.2.2.2; omega) (HK.out w5 (FB.out.trans' hK5.fr (fun _ _ e => e))) Hkn.out (by omega) (fun ad e hne e2 => by have h8 := Hao.out ad e hne; have h9 := hK5.rn _ e2; omega))
              have HK5 := Lib.hid hK5
              clear hf hkx hky hfr hg hS hK5 CC CK hk hD HE0 HK0 HJ
              go_wp2_with fail
              refine CX.out.mono ?_
              rintro e w6 ⟨rfl, hR6, hF6⟩
              have hK6 := HK5.out.rstep hR6 hF6
              have hq6 : 0 + n ≤ (D.crash keep).n := by show 0 + n ≤ D.n; rw [HM.out.2.2.2]; omega
              obtain ⟨da, db, hdd⟩ := hK6.dd
              have CO := Lib.hid (lOpen_yes 0 n hq6 hn20.1 1 (by decide) w6 hdd)
              have HK6 := Lib.hid hK6
              have Hq6 := Lib.hid hq6
              clear hR6 hF6 hK6 hq6 hdd CX HK5
              go_wp2_with fail
              refine CO.out.mono ?_
              rintro e w7 hO
              obtain ⟨S7, T7, l', k7, fs', rfl, ht7, hP7, hS7, hT7⟩ := HK6.out.popen Hq6.out hn20.1 (by decide) hO
              have CQ := Lib.hid (refOpen8_any r gl gr gd (D.crash keep) 0 n 1 Hq6.out (by show D.n ≤ 4096; have := HM.out.2.2.2; omega) w7 hP7.rd)
              have HP7 := Lib.hid hP7
              have HT7 := Lib.hid ht7
              clear hO ht7 hP7 hS7 hT7 CO HK6
              go_wp2_with fail
              refine CQ.out.mono ?_
              rintro e w8 hO
              obtain ⟨B8, lg', k8, fs8, rfl, ht8, hJ8, hF8⟩ := HP7.out.ropen hO
              obtain ⟨rfl, rfl⟩ := ht8.uniq HT7.out
              have HJ8 := Lib.hid hJ8
              clear hO ht8 hJ8 hF8 CQ HP7
              obtain ⟨bA, bc, bs, hb1, hb2, hb3, hb4, hb5, hb6, hb7⟩ := HJ8.out.rl.lies
              obtain ⟨bn, Hbn⟩ : ∃ bn, Hid (bs.length = bn) := ⟨_, Lib.hid rfl⟩
              rw [Hbn.out] at hb1
              have Hb1 := Lib.hid hb1
              have Hb2 := Lib.hid hb2
              have Hb3 := Lib.hid hb3
              have hbl : bn ≤ 32768 := by rw [← Hbn.out, ← List.length_map (f := FrV.f), hb3]; exact HJ8.out.le.inv.len
              clear hb1 hb2 hb3 hb4 hb5 hb6 hb7
              go_wp2_with fail
              have h0 : w8.drew.cell? ⟨lg', 4, none⟩ = some (.slice bA bn bc) := Hb1.out.cell 4
              refine wp_region_held_drew (S := (fun w' => w'.cell? ⟨lg', 4, none⟩ = some (.slice bA bn bc))) (by kernel_rfl) h0 (fun hHeld => ?_)
              refine any_take 106 (.int .i64 0) (i := 0) rfl rfl (by kernel_rfl) (by kernel_rfl) (by kernel_rfl) (fun _ _ _ h => h) (by rfl) (by intro w hSw; (try dsimp only at hSw); go_simp; try with_reducible rfl) (by assumption) ?_
              simp only [Act.put, List.setIfInBounds_toArray, List.set_cons_zero, List.set_cons_succ]
              refine any_take 107 (.bool false) (i := 1) rfl rfl (by kernel_rfl) (by kernel_rfl) (by kernel_rfl) (fun _ _ _ h => h) (by rfl) (by intro w hSw; (try dsimp only at hSw); go_simp; try with_reducible rfl) (by assumption) ?_
              simp only [Act.put, List.setIfInBounds_toArray, List.set_cons_zero, List.set_cons_succ]
              refine any_take 108 (.bool false) (i := 2) rfl rfl (by kernel_rfl) (by kernel_rfl) (by kernel_rfl) (fun _ _ _ h => h) (by rfl) (by intro w hSw; (try dsimp only at hSw); go_simp; try with_reducible rfl) (by assumption) ?_
              simp only [Act.put, List.setIfInBounds_toArray, List.set_cons_zero, List.set_cons_succ]
              refine any_take 109 (.pointer (some ⟨l', 0, none⟩)) (i := 3) rfl rfl (by kernel_rfl) (by kernel_rfl) (by kernel_rfl) (fun _ _ _ h => h) (by rfl) (by intro w hSw; (try dsimp only at hSw); go_simp; try with_reducible rfl) (by assumption) ?_
              simp only [Act.put, List.setIfInBounds_toArray, List.set_cons_zero, List.set_cons_succ]
              refine any_take 111 (.pointer (some ⟨lg', 0, none⟩)) (i := 5) rfl rfl (by kernel_rfl) (by kernel_rfl) (by kernel_rfl) (fun _ _ _ h => h) (by rfl) (by intro w hSw; (try dsimp only at hSw); go_simp; try with_reducible rfl) (by assumption) ?_
              simp only [Act.put, List.setIfInBounds_toArray, List.set_cons_zero, List.set_cons_succ]
              refine any_take 112 (.pointer (some ⟨lg', 0, none⟩)) (i := 6) rfl rfl (by kernel_rfl) (by kernel_rfl) (by kernel_rfl) (fun _ _ _ h => h) (by rfl) (by intro w hSw; (try dsimp only at hSw); go_simp; try with_reducible rfl) (by assumption) ?_
              simp only [Act.put, List.setIfInBounds_toArray, List.set_cons_zero, List.set_cons_succ]
              refine any_take 113 (.pointer (some ⟨lg', 4, none⟩)) (i := 7) rfl rfl (by kernel_rfl) (by kernel_rfl) (by kernel_rfl) (fun _ _ _ h => h) (by rfl) (by intro w hSw; (try dsimp only at hSw); go_simp; try with_reducible rfl) (by assumption) ?_
              simp only [Act.put, List.setIfInBounds_toArray, List.set_cons_zero, List.set_cons_succ]
              refine any_take 114 (.slice bA bn bc) (i := 8) rfl rfl (by kernel_rfl) (by kernel_rfl) (by kernel_rfl) (fun _ _ _ h => h) (by rfl) (by intro w hSw; (try dsimp only at hSw); go_simp; try with_reducible rfl) (by assumption) ?_
              simp only [Act.put, List.setIfInBounds_toArray, List.set_cons_zero, List.set_cons_succ]
              have CF := Lib.hid (lFrames_any w8.drew (HJ8.out.le.lo.fr (Fr.refl No _).drew (fun _ _ e => e)))
              refine wpAnyH_ready (rs := [4]) (by kernel_rfl) (by simp) ?_
              refine AllReadyH.cons rfl (fun K' hK => ?_) AllReadyH.nil
              go_simp
              go_at_call 29
              refine CF.out.mono ?_
              rintro e w9 ⟨zA, zc, zs, rfl, hz1, hz2, hz3, hz4, hz5, hz6⟩
              have f9 : Fr No w8 w9 := (Fr.refl No w8).drew.trans' hz5 (fun _ _ e => e)
              have hzl : zs.length = bn := by rw [← Hbn.out, ← List.length_map (f := FrV.f), hz1, ← Hb3.out, List.length_map]
              have CS := Lib.hid (refSame6_any zs bs zA bA zs.length bn zc bc w9 hz2 (Hb2.out.since f9) rfl Hbn.out (by omega) (by omega))
              have HZy : Hid (zs.map FrV.f = bs.map FrV.f) := Lib.hid (by rw [hz1, Hb3.out])
              dsimp only
              clear hHeld
              have h1 : w9.cell? ⟨lg', 4, none⟩ = some (.slice bA bn bc) := (Hb1.out.fr f9 (fun e => e)).cell 4
              refine hK.out _ _ h1 (fun hHeld => ?_)
              clear hK h0 h1
              try simp only [Act.put, List.setIfInBounds_toArray, List.set_cons_zero, List.set_cons_succ]
              have HF9 := Lib.hid f9
              generalize zs.length = zl at *
              clear hz1 hz2 hz3 hz4 hz5 hz6 hzl CF f9
              refine wpAnyH_ready (rs := [9]) (by kernel_rfl) (by simp) ?_
              refine AllReadyH.cons rfl (fun K' hK => ?_) AllReadyH.nil
              go_simp
              go_at_call 31
              refine CS.out.mono ?_
              rintro e w10 ⟨⟨bb, rfl, hbb⟩, hf10⟩
              obtain rfl : bb = true := hbb.2 HZy.out
              have f10 := HF9.out.trans' hf10 (fun _ _ e => e)
              dsimp only
              clear hHeld
              have h1 : w10.cell? ⟨lg', 4, none⟩ = some (.slice bA bn bc) := (Hb1.out.fr f10 (fun e => e)).cell 4
              refine hK.out _ _ h1 (fun hHeld => ?_)
              clear hK h1
              try simp only [Act.put, List.setIfInBounds_toArray, List.set_cons_zero, List.set_cons_succ]
              refine any_take 116 (.bool false) (i := 10) rfl rfl (by kernel_rfl) (by kernel_rfl) (by kernel_rfl) (fun _ _ _ h => h) (by rfl) (by intro w hSw; (try dsimp only at hSw); go_simp; try with_reducible rfl) (by assumption) ?_
              simp only [Act.put, List.setIfInBounds_toArray, List.set_cons_zero, List.set_cons_succ]
              refine any_take 117 (.bool false) (i := 11) rfl rfl (by kernel_rfl) (by kernel_rfl) (by kernel_rfl) (fun _ _ _ h => h) (by rfl) (by intro w hSw; (try dsimp only at hSw); go_simp; try with_reducible rfl) (by assumption) ?_
              simp only [Act.put, List.setIfInBounds_toArray, List.set_cons_zero, List.set_cons_succ]
              refine wpAnyH_done (by kernel_rfl) ?_ _
              have HJ10 := Lib.hid (HJ8.out.quiet f10)
              have HF10 := Lib.hid f10
              clear hHeld CS hbb hf10 f10 HZy HF9 HJ8 Hb1 Hb2 Hb3 Hbn hbl
              obtain ⟨D1, M1, HJ1, HM1, HI1, HD1, HL1⟩ : ∃ D1 M1, Hid (JB wb w10 S7 T7 B8 d l' r gl gr gd lg' D1 M1 D1 M1) ∧ Hid (M1.q = 0 ∧ M1.n = n ∧ M1.ep = 1 ∧ D1.n = n) ∧ Hid (LInv D1 M1) ∧ Hid D1.Ok ∧ Hid (D1.la = D1.rd) :=
                ⟨_, _, HJ10, Lib.hid ⟨rfl, rfl, rfl, by rw [openD_n]; exact HM.out.2.2.2⟩, Lib.hid HJ10.out.le.inv, Lib.hid HJ10.out.rd.ok, Lib.hid (openD_lard rfl _ _ _)⟩
              clear HJ10 HF10 HT7 HM HKw Hao Hq6
              go_wp2
              go_loopw [18] (fun iv wr => ∃ (j : Nat) (S T B : Nat → Prop) (D : Dv) (M : Lg), j ≤ n2 ∧ iv = .int .i64 j ∧ Hid (JB wb wr S T B d l' r gl gr gd lg' D M D M) ∧ Hid (M.q = 0 ∧ M.n = n ∧ M.ep = 1 ∧ D.n = n) ∧ Hid (Grew D1 D M1 M)) (fun iv _ => n2 - (intOf iv).toNat)
              case atStart => exact ⟨0, _, _, _, _, _, by omega, rfl, HJ1, HM1, Lib.hid (Grew.refl _ _)⟩
              case round =>
                obtain ⟨j, S, T, B, D, M, hj, rfl, HJ, HM, HG⟩ := hrel
                by_cases hlt : j < n2
                · have hxs := HY.out wr (FB.out.trans' HJ.out.le.fr (fun _ _ e => e))
                  have hjl : j < ys.length := by rw [Hn2.out]; exact hlt
                  have hfit0 := hxs.fit ys[j] (List.getElem_mem hjl)
                  have harg0 := Hya.out ys[j] (List.getElem_mem hjl)
                  have hatf := fun W (hW : Fr No w W) => (HY.out W hW).at hjl
                  obtain ⟨ad, hadE, hadB, k0, k1⟩ := hxs.at hjl
                  have hat2 : ∀ W, Fr No w W → W.cell? (ad.add (j * 2)) = some (.int .i64 ys[j].kind) ∧ W.cell? ⟨(ad.add (j * 2)).block, (ad.add (j * 2)).off + 1, none⟩ = some (.slice ys[j].A ys[j].ws.length ys[j].c) := fun W hW => by
                    obtain ⟨ad', e', -, h1, h2⟩ := hatf W hW
                    rw [hadE] at e'
                    injection e' with e'
                    subst e'
                    exact ⟨h1, h2⟩
                  subst hadE
                  generalize ys[j] = x at *
                  obtain ⟨kd, xA, xw, xc⟩ := x
                  obtain ⟨z, Hz⟩ : ∃ z, Hid (xw.length = z) := ⟨_, Lib.hid rfl⟩
                  have hcells : FrV.agg ⟨kd, xA, xw, xc⟩ = .agg #[.int .i64 kd, .slice xA z xc] := by unfold FrV.agg; rw [Hz.out]
                  simp only at k0 k1 hat2
                  rw [Hz.out] at k1 hat2
                  obtain ⟨ds3, ds4, hds⟩ := HJ.out.le.dd
                  have CA0 := lAppend_any ⟨kd, xA, xw, xc⟩ wr hds HJ.out.le.lo HJ.out.le.ap HJ.out.le.inv hfit0
                  rw [hcells] at CA0
                  have CA := Lib.hid CA0
                  have Hat := Lib.hid hat2
                  have Hcells := Lib.hid hcells
                  have Harg := Lib.hid harg0
                  have Hfit := Lib.hid hfit0
                  have Hinv := Lib.hid HJ.out.le.inv
                  have Hds : Hid ((appDv D M (FrV.f ⟨kd, xA, xw, xc⟩)).n = n) := Lib.hid (by rw [appDv_n]; exact HM.out.2.2.2)
                  have Hms := Lib.hid (appM_same M (FrV.f ⟨kd, xA, xw, xc⟩))
                  clear hfit0 harg0 hadB hcells hds CA0 hxs hjl HJ1 hatf hat2
                  by_cases hz4 : z ≤ 400
                  · have q7 := decide_eq_false (show ¬ (400 : Int) < (z : Int) by omega)
                    go_wp2_with fail
                    refine CA.out.mono ?_
                    rintro e w5 hA
                    have hfr5 := hA.2
                    obtain ⟨sa, sb, sc, sd, -, -, hF5, -, -, -⟩ := hfr5
                    have hfit5 := fit_frS Hfit.out hF5 (fun k hk e => by have h1 := Harg.out k hk; have h2 := HJ.out.le.since k e; omega)
                    obtain ⟨rfl, S5, T5, hJ5⟩ := HJ.out.papp hA
                    obtain ⟨k2, k3⟩ := Hat.out w5 (FB.out.trans' hJ5.le.fr (fun _ _ e => e))
                    have CB0 := refAppend8_any r gl gr gd lg' B D M ⟨kd, xA, xw, xc⟩ (by have := HM.out.2.2.2; omega) w5 hJ5.rd hJ5.rl Hinv.out hfit5 hJ5.br (fun k hk => ⟨fun e => by have h1 := Harg.out k hk; have h2 := hJ5.rn k e; omega, fun e => by have h1 := Harg.out k hk; have h2 := hJ5.ln; omega⟩)
                    rw [Hcells.out] at CB0
                    have CB := Lib.hid CB0
                    have HJ5 := Lib.hid hJ5
                    clear hA hF5 hJ5 hfit5 CB0 HJ CA k0 k1
                    go_wp2_with fail
                    refine CB.out.mono ?_
                    rintro e w6 hA
                    obtain ⟨rfl, B6, hJ6⟩ := HJ5.out.rapp Harg.out hA
                    have HJ6 := Lib.hid hJ6
                    clear hA hJ6 HJ5 CB k2 k3
                    go_wp2
                    go_roundw
                    case rel => exact ⟨j + 1, S5, T5, B6, _, _, by omega, by go_num, HJ6, Lib.hid ⟨Hms.out.1.trans HM.out.1, Hms.out.2.1.trans HM.out.2.1, Hms.out.2.2.trans HM.out.2.2.1, Hds.out⟩, Lib.hid (HG.out.app _)⟩
                    case measure => simp [intOf]; omega
                  · have q7 := decide_eq_true (show (400 : Int) < (z : Int) by omega)
                    have Hend := Lib.hid (FB.out.trans' HJ.out.le.fr (fun _ _ e => e))
                    clear CA HJ
                    go_wp2
                    go_ret
                    exact ⟨rfl, Hend.out⟩
                · obtain rfl : j = n2 := by omega
                  obtain ⟨aA, ac, avs, hb1, hb2, hb3, hb4, hb5, hb6, hb7⟩ := HJ.out.rl.lies
                  obtain ⟨an, Han⟩ : ∃ an, Hid (avs.length = an) := ⟨_, Lib.hid rfl⟩
                  rw [Han.out] at hb1 hb4
                  have HAL := Lib.hid hb3
                  have han : an ≤ 32768 := by rw [← Han.out, ← List.length_map (f := FrV.f), hb3]; exact HJ.out.le.inv.len
                  have HA : Hid (KF wr S r gl gr gd aA avs) := Lib.hid ⟨hb2, fun k hk => ⟨fun e => (HJ.out.ap k (.inl e)).2 ((hb6 k).2 (.inr hk)), fun e => HJ.out.br k ((hb6 k).2 (.inr hk)) e⟩⟩
                  have HIm := Lib.hid HJ.out.le.inv
                  have HDm := Lib.hid HJ.out.rd.ok
                  have hc4 : wr.cell? ⟨lg', 4, none⟩ = some (.slice aA an ac) := hb1.cell 4
                  have Hac : Hid (an ≤ ac ∧ ac ≤ maxLen) := Lib.hid ⟨hb4, hb5⟩
                  clear hb1 hb2 hb3 hb4 hb5 hb6 hb7
                  have hK0 := HJ.out.devices
                  obtain ⟨da, db, hdd⟩ := hK0.dd
                  have hE0 : Env wb wr S d D da db := ⟨hdd, hK0.sn, hK0.fr⟩
                  have CK := Lib.hid (keeps_any other Ao on co wr (HO.out wr (FB.out.trans' hK0.fr (fun _ _ e => e))) Hon.out)
                  have HE0 := Lib.hid hE0
                  have HK0 := Lib.hid hK0
                  have HKw := Lib.hid (HO.out wb FB.out)
                  have Hao : Hid (∀ ad, Ao = some ad → other ≠ [] → ad.block < wb.heap.size) := Lib.hid (fun ad e hne => by
                    obtain ⟨ad', e', hb9, _⟩ := HKw.out (by intro h0; apply hne; simpa [bools] using h0)
                    rw [e] at e'
                    injection e' with e'
                    rw [e']
                    exact hb9)
                  clear hdd hE0 hK0 hlt hj
                  go_wp2_with fail
                  refine CK.out.mono ?_
                  rintro e w4 ⟨kx, ky, rfl, hk, hkx, hky, hf⟩
                  have hs4 := HE0.out.dd.lt
                  have CC := Lib.hid (dCrash_any kx ky Ao on co other w4 (HE0.out.quiet hf).dd hk (fun e => by have := hs4 _ e; omega) (fun e => by have := hs4 _ e; omega) (fun ad e hne e2 => by have h8 := Hao.out ad e hne; have h9 := HE0.out.new _ e2; omega) HE0.out.dd.small)
                  clear hs4
                  go_wp2_with fail
                  refine CC.out.mono ?_
                  rintro e w5 ⟨rfl, S5, hD, hfr, hg⟩
                  have hS := keepCrash hf hkx hfr hg
                  have hK5 := HK0.out.pstep hD hS
                  have CX := Lib.hid (refCrash_any r gl gr gd D other Ao on co w5 hK5.rd (by have := HM.out.2.2.2; omega) (HO.out w5 (FB.out.trans' hK5.fr (fun _ _ e => e))) Hon.out (by omega) (fun ad e hne e2 => by have h8 := Hao.out ad e hne; have h9 := hK5.rn _ e2; omega))
                  have HK5 := Lib.hid hK5
                  have HA5 := Lib.hid (HA.out.pstep hS)
                  clear HA
                  clear hf hkx hky hfr hg hS hK5 CC CK hk hD HE0 HK0 HJ
                  go_wp2_with fail
                  refine CX.out.mono ?_
                  rintro e w6 ⟨rfl, hR6, hF6⟩
                  have hK6 := HK5.out.rstep hR6 hF6
                  have hq6 : 0 + n ≤ (D.crash other).n := by show 0 + n ≤ D.n; rw [HM.out.2.2.2]; omega
                  obtain ⟨da, db, hdd⟩ := hK6.dd
                  have CO := Lib.hid (lOpen_yes 0 n hq6 hn20.1 1 (by decide) w6 hdd)
                  have HK6 := Lib.hid hK6
                  have Hq6 := Lib.hid hq6
                  have HA6 := Lib.hid (HA5.out.rstep hF6)
                  clear HA5
                  clear hR6 hF6 hK6 hq6 hdd CX HK5
                  go_wp2_with fail
                  refine CO.out.mono ?_
                  rintro e w7 hO
                  obtain ⟨S7, T7, l'', k7, fs'', rfl, ht7, hP7, hS7, hT7⟩ := HK6.out.popen Hq6.out hn20.1 (by decide) hO
                  have CQ := Lib.hid (refOpen8_any r gl gr gd (D.crash other) 0 n 1 Hq6.out (by show D.n ≤ 4096; have := HM.out.2.2.2; omega) w7 hP7.rd)
                  have HP7 := Lib.hid hP7
                  have HT7 := Lib.hid ht7
                  have HA7 := Lib.hid (HA6.out.pstep hS7)
                  clear HA6
                  clear hO ht7 hP7 hS7 hT7 CO HK6
                  go_wp2_with fail
                  refine CQ.out.mono ?_
                  rintro e w8 hO
                  obtain ⟨B8, lg'', k8, fs8, rfl, ht8, hJ8, hF8⟩ := HP7.out.ropen hO
                  obtain ⟨rfl, rfl⟩ := ht8.uniq HT7.out
                  have HJ8 := Lib.hid hJ8
                  have HA8 := Lib.hid (HA7.out.rstep hF8)
                  clear HA7
                  clear hO ht8 hJ8 hF8 CQ HP7
                  obtain ⟨bA, bc, bs, hb1, hb2, hb3, hb4, hb5, hb6, hb7⟩ := HJ8.out.rl.lies
                  obtain ⟨bn, Hbn⟩ : ∃ bn, Hid (bs.length = bn) := ⟨_, Lib.hid rfl⟩
                  rw [Hbn.out] at hb1
                  have Hb1 := Lib.hid hb1
                  have Hb2 := Lib.hid hb2
                  have Hb3 := Lib.hid hb3
                  have hbl : bn ≤ 32768 := by rw [← Hbn.out, ← List.length_map (f := FrV.f), hb3]; exact HJ8.out.le.inv.len
                  clear hb1 hb2 hb3 hb4 hb5 hb6 hb7
                  go_wp2_with fail
                  have h0 : w8.drew.cell? ⟨lg'', 4, none⟩ = some (.slice bA bn bc) := Hb1.out.cell 4
                  refine wp_region_held_drew (S := (fun w' => w'.cell? ⟨lg'', 4, none⟩ = some (.slice bA bn bc))) (by kernel_rfl) h0 (fun hHeld => ?_)
                  refine any_take 163 (.int .i64 0) (i := 0) rfl rfl (by kernel_rfl) (by kernel_rfl) (by kernel_rfl) (fun _ _ _ h => h) (by rfl) (by intro w hSw; (try dsimp only at hSw); go_simp; try with_reducible rfl) (by assumption) ?_
                  simp only [Act.put, List.setIfInBounds_toArray, List.set_cons_zero, List.set_cons_succ]
                  refine any_take 164 (.bool false) (i := 1) rfl rfl (by kernel_rfl) (by kernel_rfl) (by kernel_rfl) (fun _ _ _ h => h) (by rfl) (by intro w hSw; (try dsimp only at hSw); go_simp; try with_reducible rfl) (by assumption) ?_
                  simp only [Act.put, List.setIfInBounds_toArray, List.set_cons_zero, List.set_cons_succ]
                  refine any_take 165 (.bool false) (i := 2) rfl rfl (by kernel_rfl) (by kernel_rfl) (by kernel_rfl) (fun _ _ _ h => h) (by rfl) (by intro w hSw; (try dsimp only at hSw); go_simp; try with_reducible rfl) (by assumption) ?_
                  simp only [Act.put, List.setIfInBounds_toArray, List.set_cons_zero, List.set_cons_succ]
                  refine any_take 166 (.pointer (some ⟨l'', 0, none⟩)) (i := 3) rfl rfl (by kernel_rfl) (by kernel_rfl) (by kernel_rfl) (fun _ _ _ h => h) (by rfl) (by intro w hSw; (try dsimp only at hSw); go_simp; try with_reducible rfl) (by assumption) ?_
                  simp only [Act.put, List.setIfInBounds_toArray, List.set_cons_zero, List.set_cons_succ]
                  refine any_take 168 (.pointer (some ⟨lg'', 0, none⟩)) (i := 5) rfl rfl (by kernel_rfl) (by kernel_rfl) (by kernel_rfl) (fun _ _ _ h => h) (by rfl) (by intro w hSw; (try dsimp only at hSw); go_simp; try with_reducible rfl) (by assumption) ?_
                  simp only [Act.put, List.setIfInBounds_toArray, List.set_cons_zero, List.set_cons_succ]
                  refine any_take 169 (.pointer (some ⟨lg'', 0, none⟩)) (i := 6) rfl rfl (by kernel_rfl) (by kernel_rfl) (by kernel_rfl) (fun _ _ _ h => h) (by rfl) (by intro w hSw; (try dsimp only at hSw); go_simp; try with_reducible rfl) (by assumption) ?_
                  simp only [Act.put, List.setIfInBounds_toArray, List.set_cons_zero, List.set_cons_succ]
                  refine any_take 170 (.pointer (some ⟨lg'', 4, none⟩)) (i := 7) rfl rfl (by kernel_rfl) (by kernel_rfl) (by kernel_rfl) (fun _ _ _ h => h) (by rfl) (by intro w hSw; (try dsimp only at hSw); go_simp; try with_reducible rfl) (by assumption) ?_
                  simp only [Act.put, List.setIfInBounds_toArray, List.set_cons_zero, List.set_cons_succ]
                  refine any_take 171 (.slice bA bn bc) (i := 8) rfl rfl (by kernel_rfl) (by kernel_rfl) (by kernel_rfl) (fun _ _ _ h => h) (by rfl) (by intro w hSw; (try dsimp only at hSw); go_simp; try with_reducible rfl) (by assumption) ?_
                  simp only [Act.put, List.setIfInBounds_toArray, List.set_cons_zero, List.set_cons_succ]
                  have CF := Lib.hid (lFrames_any w8.drew (HJ8.out.le.lo.fr (Fr.refl No _).drew (fun _ _ e => e)))
                  refine wpAnyH_ready (rs := [4]) (by kernel_rfl) (by simp) ?_
                  refine AllReadyH.cons rfl (fun K' hK => ?_) AllReadyH.nil
                  go_simp
                  go_at_call 29
                  refine CF.out.mono ?_
                  rintro e w9 ⟨zA, zc, zs, rfl, hz1, hz2, hz3, hz4, hz5, hz6⟩
                  have f9 : Fr No w8 w9 := (Fr.refl No w8).drew.trans' hz5 (fun _ _ e => e)
                  have hzl : zs.length = bn := by rw [← Hbn.out, ← List.length_map (f := FrV.f), hz1, ← Hb3.out, List.length_map]
                  have CS := Lib.hid (refSame6_any zs bs zA bA zs.length bn zc bc w9 hz2 (Hb2.out.since f9) rfl Hbn.out (by omega) (by omega))
                  have HZy : Hid (zs.map FrV.f = bs.map FrV.f) := Lib.hid (by rw [hz1, Hb3.out])
                  dsimp only
                  clear hHeld
                  have h1 : w9.cell? ⟨lg'', 4, none⟩ = some (.slice bA bn bc) := (Hb1.out.fr f9 (fun e => e)).cell 4
                  refine hK.out _ _ h1 (fun hHeld => ?_)
                  clear hK h0 h1
                  try simp only [Act.put, List.setIfInBounds_toArray, List.set_cons_zero, List.set_cons_succ]
                  have HF9 := Lib.hid f9
                  generalize zs.length = zl at *
                  clear hz1 hz2 hz3 hz4 hz5 hz6 hzl CF f9
                  refine wpAnyH_ready (rs := [9]) (by kernel_rfl) (by simp) ?_
                  refine AllReadyH.cons rfl (fun K' hK => ?_) AllReadyH.nil
                  go_simp
                  go_at_call 31
                  refine CS.out.mono ?_
                  rintro e w10 ⟨⟨bb, rfl, hbb⟩, hf10⟩
                  obtain rfl : bb = true := hbb.2 HZy.out
                  have f10 := HF9.out.trans' hf10 (fun _ _ e => e)
                  dsimp only
                  clear hHeld
                  have h1 : w10.cell? ⟨lg'', 4, none⟩ = some (.slice bA bn bc) := (Hb1.out.fr f10 (fun e => e)).cell 4
                  refine hK.out _ _ h1 (fun hHeld => ?_)
                  clear hK h1
                  try simp only [Act.put, List.setIfInBounds_toArray, List.set_cons_zero, List.set_cons_succ]
                  refine any_take 173 (.bool false) (i := 10) rfl rfl (by kernel_rfl) (by kernel_rfl) (by kernel_rfl) (fun _ _ _ h => h) (by rfl) (by intro w hSw; (try dsimp only at hSw); go_simp; try with_reducible rfl) (by assumption) ?_
                  simp only [Act.put, List.setIfInBounds_toArray, List.set_cons_zero, List.set_cons_succ]
                  refine any_take 174 (.bool false) (i := 11) rfl rfl (by kernel_rfl) (by kernel_rfl) (by kernel_rfl) (fun _ _ _ h => h) (by rfl) (by intro w hSw; (try dsimp only at hSw); go_simp; try with_reducible rfl) (by assumption) ?_
                  simp only [Act.put, List.setIfInBounds_toArray, List.set_cons_zero, List.set_cons_succ]
                  refine wpAnyH_done (by kernel_rfl) ?_ _
                  have HJ10 := Lib.hid (HJ8.out.quiet f10)
                  have HF10 := Lib.hid f10
                  clear hHeld CS hbb hf10 f10 HZy HF9 HJ8 Hb1 Hb2 Hb3 Hbn hbl
                  have HA10 := Lib.hid (HA8.out.quiet HF10.out)
                  have CF := Lib.hid (lFrames_any w10 HJ10.out.le.lo)
                  clear HF10 HA8 HKw Hao Hq6
                  go_wp2_with fail
                  refine CF.out.mono ?_
                  rintro e w11 ⟨gA, gc, gs, rfl, hg1, hg2, hg3, hg4, hg5, hg6⟩
                  have HA11 := Lib.hid (HA10.out.frs.since hg5)
                  have HJ11 := Lib.hid (HJ10.out.quiet hg5)
                  have Hg1 : Hid (gs.map FrV.f = fs8) := Lib.hid hg1
                  have Hg2 := Lib.hid hg2
                  obtain ⟨gn, Hgn⟩ : ∃ gn, Hid (gs.length = gn) := ⟨_, Lib.hid rfl⟩
                  have hgl : gn ≤ 32768 := by rw [← Hgn.out, ← List.length_map (f := FrV.f), hg1]; exact HJ11.out.le.inv.len
                  have Hgc : Hid (gn ≤ gc ∧ gc ≤ maxLen) := Lib.hid ⟨by rw [← Hgn.out]; exact hg3, hg4⟩
                  have Hlost := Lib.hid (fun i h1 h2 h3 => grew_lost HG.out HI1.out HD1.out HDm.out (fun a => by rw [HL1.out]) HIm.out other (by rw [HM1.out.1, HM1.out.2.1, HM1.out.2.2.1]; exact HT7.out) i h1 h2 h3)
                  rw [← Hg1.out, ← HAL.out] at Hlost
                  have HLost : Hid (∀ i, i ≤ gn → i ≤ an → (gs.map FrV.f).take i = (avs.map FrV.f).take i → (i = an → i = gn) ∧ (∀ f g, (gs.map FrV.f)[i]? = some f → (avs.map FrV.f)[i]? = some g → f ≠ g → f.kind = g.kind ∧ f.words.length = g.words.length)) := Lib.hid (fun i h1 h2 h3 => by
                    have q := Hlost.out i h3 (by rw [List.length_map, Hgn.out]; exact h1) (by rw [List.length_map, Han.out]; exact h2)
                    rw [List.length_map, List.length_map, Hgn.out, Han.out] at q
                    exact q)
                  rw [Hgn.out]
                  clear hg1 hg2 hg3 hg4 hg5 hg6 CF HJ10 HA10 HT7 HG HI1 HD1 HL1 HM1 HM HIm HDm Hlost
                  have HF11 := Lib.hid (FB.out.trans' HJ11.out.le.fr (fun _ _ e => e))
                  clear HJ11 hc4
                  by_cases hga : gn ≤ an
                  · have qga := decide_eq_true (show (gn : Int) ≤ (an : Int) by omega)
                    have hgac : gn ≤ ac := by have := Hac.out.1; omega
                    have CS := Lib.hid (refSame6_any gs (avs.take gn) gA aA gn gn gc ac w11 Hg2.out (HA11.out.take8 gn) Hgn.out (by rw [List.length_take, Han.out]; omega) (by omega) (by omega))
                    go_wp2_with fail
                    refine CS.out.mono ?_
                    rintro e w12 ⟨⟨bb, rfl, hbb⟩, hf12⟩
                    have HF12 := Lib.hid (HF11.out.trans' hf12 (fun _ _ e => e))
                    by_cases hb : bb = true
                    · subst hb
                      clear CS
                      go_wp2
                      go_ret
                      exact ⟨rfl, HF12.out⟩
                    · obtain rfl : bb = false := by simpa using hb
                      have HNP : Hid (¬ (gn ≤ an ∧ gs.map FrV.f = (avs.map FrV.f).take gn)) := Lib.hid (fun h => by rw [← List.map_take] at h; exact hb (hbb.2 h.2))
                      have HA12 := Lib.hid (HA11.out.since hf12)
                      have Hg12 := Lib.hid (Hg2.out.since hf12)
                      clear CS hbb hb hf12 HF11 HA11 Hg2
                      go_wp2
                      go_loopw [21] (fun iv wr => ∃ (i : Nat), i ≤ gn ∧ i ≤ an ∧ iv = .int .i64 i ∧ Hid ((gs.map FrV.f).take i = (avs.map FrV.f).take i) ∧ Hid (Fr No w12 wr)) (fun iv _ => gn - (intOf iv).toNat)
                      case atStart => exact ⟨0, by omega, by omega, rfl, Lib.hid rfl, Lib.hid (Fr.refl _ _)⟩
                      case round =>
                        obtain ⟨i, hi1, hi2, rfl, Hpre, Hwr⟩ := hrel
                        have hgi : i < gn := by
                          rcases Nat.lt_or_ge i gn with c1 | c1
                          · exact c1
                          · exfalso
                            obtain rfl : i = gn := by omega
                            exact HNP.out ⟨hi2, by rw [← Hpre.out, List.take_of_length_le (by rw [List.length_map, Hgn.out]; omega)]⟩
                        have hai : i < an := by
                          rcases Nat.lt_or_ge i an with c1 | c1
                          · exact c1
                          · exfalso
                            have q := (HLost.out i hi1 hi2 Hpre.out).1 (by omega)
                            omega
                        have hgs : i < gs.length := by rw [Hgn.out]; exact hgi
                        have has : i < avs.length := by rw [Han.out]; exact hai
                        have hG := (Hg12.out.since Hwr.out)
                        have hA := (HA12.out.since Hwr.out)
                        obtain ⟨ad1, e1, -, g0, g1⟩ := hG.at hgs
                        obtain ⟨ad2, e2, -, l0, l1⟩ := hA.at has
                        subst e1
                        subst e2
                        have hG1 := hG.one hgs
                        have hA1 := hA.one has
                        have CS := Lib.hid (fun W (hW : Fr No wr W) => refSame6_any [gs[i]] [avs[i]] (some (ad1.add (i * 2))) (some (ad2.add (i * 2))) 1 1 (gc - i) (ac - i) W (hG1.since hW) (hA1.since hW) rfl rfl (by have := Hgc.out; omega) (by have := Hac.out; omega))
                        have Hkl : Hid (gs[i].f ≠ avs[i].f → gs[i].kind = avs[i].kind ∧ gs[i].ws.length = avs[i].ws.length) := Lib.hid (fun hne => (HLost.out i hi1 hi2 Hpre.out).2 gs[i].f avs[i].f (by rw [List.getElem?_map, List.getElem?_eq_getElem hgs]; rfl) (by rw [List.getElem?_map, List.getElem?_eq_getElem has]; rfl) hne)
                        have Hsucc : Hid (gs[i].f = avs[i].f → (gs.map FrV.f).take (i + 1) = (avs.map FrV.f).take (i + 1)) := Lib.hid (fun he => by
                          rw [List.take_add_one, List.take_add_one, Hpre.out, List.getElem?_map, List.getElem?_map, List.getElem?_eq_getElem hgs, List.getElem?_eq_getElem has]
                          simp only [Option.map_some, he])
                        have Hat := Lib.hid (fun W (hW : Fr No wr W) => show (W.cell? (ad1.add (i * 2)) = some (.int .i64 gs[i].kind) ∧ W.cell? ⟨(ad1.add (i * 2)).block, (ad1.add (i * 2)).off + 1, none⟩ = some (.slice gs[i].A gs[i].ws.length gs[i].c)) ∧ W.cell? (ad2.add (i * 2)) = some (.int .i64 avs[i].kind) ∧ W.cell? ⟨(ad2.add (i * 2)).block, (ad2.add (i * 2)).off + 1, none⟩ = some (.slice avs[i].A avs[i].ws.length avs[i].c) from by
                          obtain ⟨a3, e3, -, h3, h4⟩ := (hG.since hW).at hgs
                          obtain ⟨a4, e4, -, h5, h6⟩ := (hA.since hW).at has
                          injection e3 with e3
                          injection e4 with e4
                          subst e3
                          subst e4
                          exact ⟨⟨h3, h4⟩, h5, h6⟩)
                        generalize gs[i] = x at *
                        generalize avs[i] = y at *
                        have q1 := decide_eq_true (show (i : Int) < (gn : Int) by omega)
                        have q2 := decide_eq_true (show (i : Int) < (an : Int) by omega)
                        have hw1 : i + 1 ≤ gc := by have := Hgc.out.1; omega
                        have hw2 : i + 1 ≤ ac := by have := Hac.out.1; omega
                        have hi0 : i ≤ i + 1 := by omega
                        have hv1 : (i : Int) + 1 ≤ (gc : Int) := by omega
                        have hv2 : (i : Int) + 1 ≤ (ac : Int) := by omega
                        have hv3 : (0 : Int) ≤ (i : Int) + 1 := by omega
                        have hi4 : ¬ gc = i := by omega
                        have hi5 : ¬ ac = i := by omega
                        have hwi : IntKind.i64.wrap ((i : Int) + 1) = (i : Int) + 1 := IntWalk.i64_in _ (by omega)
                        clear hG hA hG1 hA1 g0 g1 l0 l1 hgs has
                        go_wp2_with fail
                        refine wp_region_held_drew (S := fun _ => True) (by kernel_rfl) trivial (fun hHeld => ?_)
                        refine any_take 190 (.int .i64 (i : Int)) (i := 0) rfl rfl (by kernel_rfl) (by kernel_rfl) (by kernel_rfl) (fun _ _ _ h => h) (by rfl) (by intro w hSw; (try dsimp only at hSw); go_simp; try with_reducible rfl) (by assumption) ?_
                        simp only [Act.put, List.setIfInBounds_toArray, List.set_cons_zero, List.set_cons_succ]
                        refine any_take 191 (.slice (some ad1) gn gc) (i := 1) rfl rfl (by kernel_rfl) (by kernel_rfl) (by kernel_rfl) (fun _ _ _ h => h) (by rfl) (by intro w hSw; (try dsimp only at hSw); go_simp; try with_reducible rfl) (by assumption) ?_
                        simp only [Act.put, List.setIfInBounds_toArray, List.set_cons_zero, List.set_cons_succ]
                        refine any_take 192 (.int .i64 (gn : Int)) (i := 2) rfl rfl (by kernel_rfl) (by kernel_rfl) (by kernel_rfl) (fun _ _ _ h => h) (by rfl) (by intro w hSw; (try dsimp only at hSw); go_simp; try with_reducible rfl) (by assumption) ?_
                        simp only [Act.put, List.setIfInBounds_toArray, List.set_cons_zero, List.set_cons_succ]
                        refine any_take 193 (.bool true) (i := 3) rfl rfl (by kernel_rfl) (by kernel_rfl) (by kernel_rfl) (fun _ _ _ h => h) (by rfl) (by intro w hSw; (try dsimp only at hSw); go_simp; try with_reducible rfl) (by assumption) ?_
                        simp only [Act.put, List.setIfInBounds_toArray, List.set_cons_zero, List.set_cons_succ]
                        refine any_take 194 (.bool true) (i := 4) rfl rfl (by kernel_rfl) (by kernel_rfl) (by kernel_rfl) (fun _ _ _ h => h) (by rfl) (by intro w hSw; (try dsimp only at hSw); go_simp; try with_reducible rfl) (by assumption) ?_
                        simp only [Act.put, List.setIfInBounds_toArray, List.set_cons_zero, List.set_cons_succ]
                        refine any_take 195 (.int .i64 (i : Int)) (i := 5) rfl rfl (by kernel_rfl) (by kernel_rfl) (by kernel_rfl) (fun _ _ _ h => h) (by rfl) (by intro w hSw; (try dsimp only at hSw); go_simp; try with_reducible rfl) (by assumption) ?_
                        simp only [Act.put, List.setIfInBounds_toArray, List.set_cons_zero, List.set_cons_succ]
                        refine any_take 196 (.slice (some ad2) an ac) (i := 6) rfl rfl (by kernel_rfl) (by kernel_rfl) (by kernel_rfl) (fun _ _ _ h => h) (by rfl) (by intro w hSw; (try dsimp only at hSw); go_simp; try with_reducible rfl) (by assumption) ?_
                        simp only [Act.put, List.setIfInBounds_toArray, List.set_cons_zero, List.set_cons_succ]
                        refine any_take 197 (.int .i64 (an : Int)) (i := 7) rfl rfl (by kernel_rfl) (by kernel_rfl) (by kernel_rfl) (fun _ _ _ h => h) (by rfl) (by intro w hSw; (try dsimp only at hSw); go_simp; try with_reducible rfl) (by assumption) ?_
                        simp only [Act.put, List.setIfInBounds_toArray, List.set_cons_zero, List.set_cons_succ]
                        refine any_take 198 (.bool true) (i := 8) rfl rfl (by kernel_rfl) (by kernel_rfl) (by kernel_rfl) (fun _ _ _ h => h) (by rfl) (by intro w hSw; (try dsimp only at hSw); go_simp; try with_reducible rfl) (by assumption) ?_
                        simp only [Act.put, List.setIfInBounds_toArray, List.set_cons_zero, List.set_cons_succ]
                        refine any_take 199 (.bool true) (i := 9) rfl rfl (by kernel_rfl) (by kernel_rfl) (by kernel_rfl) (fun _ _ _ h => h) (by rfl) (by intro w hSw; (try dsimp only at hSw); go_simp; try with_reducible rfl) (by assumption) ?_
                        simp only [Act.put, List.setIfInBounds_toArray, List.set_cons_zero, List.set_cons_succ]
                        refine any_take 200 (.bool true) (i := 10) rfl rfl (by kernel_rfl) (by kernel_rfl) (by kernel_rfl) (fun _ _ _ h => h) (by rfl) (by intro w hSw; (try dsimp only at hSw); go_simp; try with_reducible rfl) (by assumption) ?_
                        simp only [Act.put, List.setIfInBounds_toArray, List.set_cons_zero, List.set_cons_succ]
                        refine any_take 201 (.slice (some ad1) gn gc) (i := 11) rfl rfl (by kernel_rfl) (by kernel_rfl) (by kernel_rfl) (fun _ _ _ h => h) (by rfl) (by intro w hSw; (try dsimp only at hSw); go_simp; try with_reducible rfl) (by assumption) ?_
                        simp only [Act.put, List.setIfInBounds_toArray, List.set_cons_zero, List.set_cons_succ]
                        refine any_take 202 (.int .i64 (i : Int)) (i := 12) rfl rfl (by kernel_rfl) (by kernel_rfl) (by kernel_rfl) (fun _ _ _ h => h) (by rfl) (by intro w hSw; (try dsimp only at hSw); go_simp; try with_reducible rfl) (by assumption) ?_
                        simp only [Act.put, List.setIfInBounds_toArray, List.set_cons_zero, List.set_cons_succ]
                        refine any_take 203 (.int .i64 (i : Int)) (i := 13) rfl rfl (by kernel_rfl) (by kernel_rfl) (by kernel_rfl) (fun _ _ _ h => h) (by rfl) (by intro w hSw; (try dsimp only at hSw); go_simp; try with_reducible rfl) (by assumption) ?_
                        simp only [Act.put, List.setIfInBounds_toArray, List.set_cons_zero, List.set_cons_succ]
                        refine any_take 204 (.int .i64 ((i : Int) + 1)) (i := 14) rfl rfl (by kernel_rfl) (by kernel_rfl) (by kernel_rfl) (fun _ _ _ h => h) (by rfl) (by intro w hSw; (try dsimp only at hSw); go_simp; try with_reducible rfl) (by assumption) ?_
                        simp only [Act.put, List.setIfInBounds_toArray, List.set_cons_zero, List.set_cons_succ]
                        refine any_take 205 (.slice (some (ad1.add (i * 2))) 1 (gc - i)) (i := 15) rfl rfl (by kernel_rfl) (by kernel_rfl) (by kernel_rfl) (fun _ _ _ h => h) (by rfl) (by intro w hSw; (try dsimp only at hSw); go_simp; try with_reducible rfl) (by assumption) ?_
                        simp only [Act.put, List.setIfInBounds_toArray, List.set_cons_zero, List.set_cons_succ]
                        refine any_take 206 (.slice (some ad2) an ac) (i := 16) rfl rfl (by kernel_rfl) (by kernel_rfl) (by kernel_rfl) (fun _ _ _ h => h) (by rfl) (by intro w hSw; (try dsimp only at hSw); go_simp; try with_reducible rfl) (by assumption) ?_
                        simp only [Act.put, List.setIfInBounds_toArray, List.set_cons_zero, List.set_cons_succ]
                        refine any_take 207 (.int .i64 (i : Int)) (i := 17) rfl rfl (by kernel_rfl) (by kernel_rfl) (by kernel_rfl) (fun _ _ _ h => h) (by rfl) (by intro w hSw; (try dsimp only at hSw); go_simp; try with_reducible rfl) (by assumption) ?_
                        simp only [Act.put, List.setIfInBounds_toArray, List.set_cons_zero, List.set_cons_succ]
                        refine any_take 208 (.int .i64 (i : Int)) (i := 18) rfl rfl (by kernel_rfl) (by kernel_rfl) (by kernel_rfl) (fun _ _ _ h => h) (by rfl) (by intro w hSw; (try dsimp only at hSw); go_simp; try with_reducible rfl) (by assumption) ?_
                        simp only [Act.put, List.setIfInBounds_toArray, List.set_cons_zero, List.set_cons_succ]
                        refine any_take 209 (.int .i64 ((i : Int) + 1)) (i := 19) rfl rfl (by kernel_rfl) (by kernel_rfl) (by kernel_rfl) (fun _ _ _ h => h) (by rfl) (by intro w hSw; (try dsimp only at hSw); go_simp; try with_reducible rfl) (by assumption) ?_
                        simp only [Act.put, List.setIfInBounds_toArray, List.set_cons_zero, List.set_cons_succ]
                        refine any_take 210 (.slice (some (ad2.add (i * 2))) 1 (ac - i)) (i := 20) rfl rfl (by kernel_rfl) (by kernel_rfl) (by kernel_rfl) (fun _ _ _ h => h) (by rfl) (by intro w hSw; (try dsimp only at hSw); go_simp; try with_reducible rfl) (by assumption) ?_
                        simp only [Act.put, List.setIfInBounds_toArray, List.set_cons_zero, List.set_cons_succ]
                        refine wpAnyH_ready (rs := [21]) (by kernel_rfl) (by simp) ?_
                        refine AllReadyH.cons rfl (fun K' hK => ?_) AllReadyH.nil
                        go_simp
                        go_at_call 31
                        refine (CS.out _ ((Fr.refl _ _).drew)).mono ?_
                        rintro e w15 ⟨⟨bb, rfl, hbb⟩, f15⟩
                        have F15 : Fr No wr w15 := Fr.trans' ((Fr.refl _ _).drew) f15 (fun _ _ e => e)
                        have hbf : bb = true ↔ x.f = y.f := by
                          rw [hbb]
                          simp
                        dsimp only
                        refine hK.out _ _ trivial (fun hHeld => ?_)
                        clear hK CS
                        try simp only [Act.put, List.setIfInBounds_toArray, List.set_cons_zero, List.set_cons_succ]
                        refine any_take 212 (.bool bb) (i := 22) rfl rfl (by kernel_rfl) (by kernel_rfl) (by kernel_rfl) (fun _ _ _ h => h) (by rfl) (by intro w hSw; (try dsimp only at hSw); go_simp; try with_reducible rfl) (by assumption) ?_
                        simp only [Act.put, List.setIfInBounds_toArray, List.set_cons_zero, List.set_cons_succ]
                        refine wpAnyH_done (by kernel_rfl) ?_ _
                        clear hHeld hbb f15
                        obtain ⟨k0, k1⟩ := (Hat.out w15 F15).1
                        obtain ⟨k2, k3⟩ := (Hat.out w15 F15).2
                        have HFe := Lib.hid ((HF12.out.trans' Hwr.out (fun _ _ e => e)).trans' F15 (fun _ _ e => e))
                        have HFw := Lib.hid (Hwr.out.trans' F15 (fun _ _ e => e))
                        clear Hat F15
                        cases bb with
                        | true =>
                          have Hnx := Lib.hid (Hsucc.out (hbf.1 rfl))
                          clear hbf Hkl Hsucc k0 k1 k2 k3
                          go_wp2
                          go_roundw
                          case rel => exact ⟨i + 1, by omega, by omega, by go_num, Hnx, HFw⟩
                          case measure => simp [intOf]; omega
                        | false =>
                          obtain ⟨hk, hl⟩ := Hkl.out (fun he => by have := hbf.2 he; cases this)
                          rw [hk] at k0
                          rw [hl] at k1
                          obtain ⟨kd, hkd⟩ : ∃ kd, kd = y.kind := ⟨_, rfl⟩
                          obtain ⟨z, hz⟩ : ∃ z, z = y.ws.length := ⟨_, rfl⟩
                          rw [← hkd] at k0 k2
                          rw [← hz] at k1 k3
                          clear hbf Hkl Hsucc hk hl hkd hz
                          go_wp2
                          go_quiet (fail)
                          go_wp2
                          go_ret
                          refine ⟨?_, by first | exact HFe.out.drewN _ | exact HFe.out.drew | exact HFe.out⟩
                          simp
                  · have qga := decide_eq_false (show ¬ (gn : Int) ≤ (an : Int) by omega)
                    have HNP : Hid (¬ (gn ≤ an ∧ gs.map FrV.f = (avs.map FrV.f).take gn)) := Lib.hid (fun h => hga h.1)
                    go_wp2
                    go_loopw [21] (fun iv wr => ∃ (i : Nat), i ≤ gn ∧ i ≤ an ∧ iv = .int .i64 i ∧ Hid ((gs.map FrV.f).take i = (avs.map FrV.f).take i) ∧ Hid (Fr No w11 wr)) (fun iv _ => gn - (intOf iv).toNat)
                    case atStart => exact ⟨0, by omega, by omega, rfl, Lib.hid rfl, Lib.hid (Fr.refl _ _)⟩
                    case round =>
                      obtain ⟨i, hi1, hi2, rfl, Hpre, Hwr⟩ := hrel
                      have hgi : i < gn := by
                        rcases Nat.lt_or_ge i gn with c1 | c1
                        · exact c1
                        · exfalso
                          obtain rfl : i = gn := by omega
                          exact HNP.out ⟨hi2, by rw [← Hpre.out, List.take_of_length_le (by rw [List.length_map, Hgn.out]; omega)]⟩
                      have hai : i < an := by
                        rcases Nat.lt_or_ge i an with c1 | c1
                        · exact c1
                        · exfalso
                          have q := (HLost.out i hi1 hi2 Hpre.out).1 (by omega)
                          omega
                      have hgs : i < gs.length := by rw [Hgn.out]; exact hgi
                      have has : i < avs.length := by rw [Han.out]; exact hai
                      have hG := (Hg2.out.since Hwr.out)
                      have hA := (HA11.out.since Hwr.out)
                      obtain ⟨ad1, e1, -, g0, g1⟩ := hG.at hgs
                      obtain ⟨ad2, e2, -, l0, l1⟩ := hA.at has
                      subst e1
                      subst e2
                      have hG1 := hG.one hgs
                      have hA1 := hA.one has
                      have CS := Lib.hid (fun W (hW : Fr No wr W) => refSame6_any [gs[i]] [avs[i]] (some (ad1.add (i * 2))) (some (ad2.add (i * 2))) 1 1 (gc - i) (ac - i) W (hG1.since hW) (hA1.since hW) rfl rfl (by have := Hgc.out; omega) (by have := Hac.out; omega))
                      have Hkl : Hid (gs[i].f ≠ avs[i].f → gs[i].kind = avs[i].kind ∧ gs[i].ws.length = avs[i].ws.length) := Lib.hid (fun hne => (HLost.out i hi1 hi2 Hpre.out).2 gs[i].f avs[i].f (by rw [List.getElem?_map, List.getElem?_eq_getElem hgs]; rfl) (by rw [List.getElem?_map, List.getElem?_eq_getElem has]; rfl) hne)
                      have Hsucc : Hid (gs[i].f = avs[i].f → (gs.map FrV.f).take (i + 1) = (avs.map FrV.f).take (i + 1)) := Lib.hid (fun he => by
                        rw [List.take_add_one, List.take_add_one, Hpre.out, List.getElem?_map, List.getElem?_map, List.getElem?_eq_getElem hgs, List.getElem?_eq_getElem has]
                        simp only [Option.map_some, he])
                      have Hat := Lib.hid (fun W (hW : Fr No wr W) => show (W.cell? (ad1.add (i * 2)) = some (.int .i64 gs[i].kind) ∧ W.cell? ⟨(ad1.add (i * 2)).block, (ad1.add (i * 2)).off + 1, none⟩ = some (.slice gs[i].A gs[i].ws.length gs[i].c)) ∧ W.cell? (ad2.add (i * 2)) = some (.int .i64 avs[i].kind) ∧ W.cell? ⟨(ad2.add (i * 2)).block, (ad2.add (i * 2)).off + 1, none⟩ = some (.slice avs[i].A avs[i].ws.length avs[i].c) from by
                        obtain ⟨a3, e3, -, h3, h4⟩ := (hG.since hW).at hgs
                        obtain ⟨a4, e4, -, h5, h6⟩ := (hA.since hW).at has
                        injection e3 with e3
                        injection e4 with e4
                        subst e3
                        subst e4
                        exact ⟨⟨h3, h4⟩, h5, h6⟩)
                      generalize gs[i] = x at *
                      generalize avs[i] = y at *
                      have q1 := decide_eq_true (show (i : Int) < (gn : Int) by omega)
                      have q2 := decide_eq_true (show (i : Int) < (an : Int) by omega)
                      have hw1 : i + 1 ≤ gc := by have := Hgc.out.1; omega
                      have hw2 : i + 1 ≤ ac := by have := Hac.out.1; omega
                      have hi0 : i ≤ i + 1 := by omega
                      have hv1 : (i : Int) + 1 ≤ (gc : Int) := by omega
                      have hv2 : (i : Int) + 1 ≤ (ac : Int) := by omega
                      have hv3 : (0 : Int) ≤ (i : Int) + 1 := by omega
                      have hi4 : ¬ gc = i := by omega
                      have hi5 : ¬ ac = i := by omega
                      have hwi : IntKind.i64.wrap ((i : Int) + 1) = (i : Int) + 1 := IntWalk.i64_in _ (by omega)
                      clear hG hA hG1 hA1 g0 g1 l0 l1 hgs has
                      go_wp2_with fail
                      refine wp_region_held_drew (S := fun _ => True) (by kernel_rfl) trivial (fun hHeld => ?_)
                      refine any_take 190 (.int .i64 (i : Int)) (i := 0) rfl rfl (by kernel_rfl) (by kernel_rfl) (by kernel_rfl) (fun _ _ _ h => h) (by rfl) (by intro w hSw; (try dsimp only at hSw); go_simp; try with_reducible rfl) (by assumption) ?_
                      simp only [Act.put, List.setIfInBounds_toArray, List.set_cons_zero, List.set_cons_succ]
                      refine any_take 191 (.slice (some ad1) gn gc) (i := 1) rfl rfl (by kernel_rfl) (by kernel_rfl) (by kernel_rfl) (fun _ _ _ h => h) (by rfl) (by intro w hSw; (try dsimp only at hSw); go_simp; try with_reducible rfl) (by assumption) ?_
                      simp only [Act.put, List.setIfInBounds_toArray, List.set_cons_zero, List.set_cons_succ]
                      refine any_take 192 (.int .i64 (gn : Int)) (i := 2) rfl rfl (by kernel_rfl) (by kernel_rfl) (by kernel_rfl) (fun _ _ _ h => h) (by rfl) (by intro w hSw; (try dsimp only at hSw); go_simp; try with_reducible rfl) (by assumption) ?_
                      simp only [Act.put, List.setIfInBounds_toArray, List.set_cons_zero, List.set_cons_succ]
                      refine any_take 193 (.bool true) (i := 3) rfl rfl (by kernel_rfl) (by kernel_rfl) (by kernel_rfl) (fun _ _ _ h => h) (by rfl) (by intro w hSw; (try dsimp only at hSw); go_simp; try with_reducible rfl) (by assumption) ?_
                      simp only [Act.put, List.setIfInBounds_toArray, List.set_cons_zero, List.set_cons_succ]
                      refine any_take 194 (.bool true) (i := 4) rfl rfl (by kernel_rfl) (by kernel_rfl) (by kernel_rfl) (fun _ _ _ h => h) (by rfl) (by intro w hSw; (try dsimp only at hSw); go_simp; try with_reducible rfl) (by assumption) ?_
                      simp only [Act.put, List.setIfInBounds_toArray, List.set_cons_zero, List.set_cons_succ]
                      refine any_take 195 (.int .i64 (i : Int)) (i := 5) rfl rfl (by kernel_rfl) (by kernel_rfl) (by kernel_rfl) (fun _ _ _ h => h) (by rfl) (by intro w hSw; (try dsimp only at hSw); go_simp; try with_reducible rfl) (by assumption) ?_
                      simp only [Act.put, List.setIfInBounds_toArray, List.set_cons_zero, List.set_cons_succ]
                      refine any_take 196 (.slice (some ad2) an ac) (i := 6) rfl rfl (by kernel_rfl) (by kernel_rfl) (by kernel_rfl) (fun _ _ _ h => h) (by rfl) (by intro w hSw; (try dsimp only at hSw); go_simp; try with_reducible rfl) (by assumption) ?_
                      simp only [Act.put, List.setIfInBounds_toArray, List.set_cons_zero, List.set_cons_succ]
                      refine any_take 197 (.int .i64 (an : Int)) (i := 7) rfl rfl (by kernel_rfl) (by kernel_rfl) (by kernel_rfl) (fun _ _ _ h => h) (by rfl) (by intro w hSw; (try dsimp only at hSw); go_simp; try with_reducible rfl) (by assumption) ?_
                      simp only [Act.put, List.setIfInBounds_toArray, List.set_cons_zero, List.set_cons_succ]
                      refine any_take 198 (.bool true) (i := 8) rfl rfl (by kernel_rfl) (by kernel_rfl) (by kernel_rfl) (fun _ _ _ h => h) (by rfl) (by intro w hSw; (try dsimp only at hSw); go_simp; try with_reducible rfl) (by assumption) ?_
                      simp only [Act.put, List.setIfInBounds_toArray, List.set_cons_zero, List.set_cons_succ]
                      refine any_take 199 (.bool true) (i := 9) rfl rfl (by kernel_rfl) (by kernel_rfl) (by kernel_rfl) (fun _ _ _ h => h) (by rfl) (by intro w hSw; (try dsimp only at hSw); go_simp; try with_reducible rfl) (by assumption) ?_
                      simp only [Act.put, List.setIfInBounds_toArray, List.set_cons_zero, List.set_cons_succ]
                      refine any_take 200 (.bool true) (i := 10) rfl rfl (by kernel_rfl) (by kernel_rfl) (by kernel_rfl) (fun _ _ _ h => h) (by rfl) (by intro w hSw; (try dsimp only at hSw); go_simp; try with_reducible rfl) (by assumption) ?_
                      simp only [Act.put, List.setIfInBounds_toArray, List.set_cons_zero, List.set_cons_succ]
                      refine any_take 201 (.slice (some ad1) gn gc) (i := 11) rfl rfl (by kernel_rfl) (by kernel_rfl) (by kernel_rfl) (fun _ _ _ h => h) (by rfl) (by intro w hSw; (try dsimp only at hSw); go_simp; try with_reducible rfl) (by assumption) ?_
                      simp only [Act.put, List.setIfInBounds_toArray, List.set_cons_zero, List.set_cons_succ]
                      refine any_take 202 (.int .i64 (i : Int)) (i := 12) rfl rfl (by kernel_rfl) (by kernel_rfl) (by kernel_rfl) (fun _ _ _ h => h) (by rfl) (by intro w hSw; (try dsimp only at hSw); go_simp; try with_reducible rfl) (by assumption) ?_
                      simp only [Act.put, List.setIfInBounds_toArray, List.set_cons_zero, List.set_cons_succ]
                      refine any_take 203 (.int .i64 (i : Int)) (i := 13) rfl rfl (by kernel_rfl) (by kernel_rfl) (by kernel_rfl) (fun _ _ _ h => h) (by rfl) (by intro w hSw; (try dsimp only at hSw); go_simp; try with_reducible rfl) (by assumption) ?_
                      simp only [Act.put, List.setIfInBounds_toArray, List.set_cons_zero, List.set_cons_succ]
                      refine any_take 204 (.int .i64 ((i : Int) + 1)) (i := 14) rfl rfl (by kernel_rfl) (by kernel_rfl) (by kernel_rfl) (fun _ _ _ h => h) (by rfl) (by intro w hSw; (try dsimp only at hSw); go_simp; try with_reducible rfl) (by assumption) ?_
                      simp only [Act.put, List.setIfInBounds_toArray, List.set_cons_zero, List.set_cons_succ]
                      refine any_take 205 (.slice (some (ad1.add (i * 2))) 1 (gc - i)) (i := 15) rfl rfl (by kernel_rfl) (by kernel_rfl) (by kernel_rfl) (fun _ _ _ h => h) (by rfl) (by intro w hSw; (try dsimp only at hSw); go_simp; try with_reducible rfl) (by assumption) ?_
                      simp only [Act.put, List.setIfInBounds_toArray, List.set_cons_zero, List.set_cons_succ]
                      refine any_take 206 (.slice (some ad2) an ac) (i := 16) rfl rfl (by kernel_rfl) (by kernel_rfl) (by kernel_rfl) (fun _ _ _ h => h) (by rfl) (by intro w hSw; (try dsimp only at hSw); go_simp; try with_reducible rfl) (by assumption) ?_
                      simp only [Act.put, List.setIfInBounds_toArray, List.set_cons_zero, List.set_cons_succ]
                      refine any_take 207 (.int .i64 (i : Int)) (i := 17) rfl rfl (by kernel_rfl) (by kernel_rfl) (by kernel_rfl) (fun _ _ _ h => h) (by rfl) (by intro w hSw; (try dsimp only at hSw); go_simp; try with_reducible rfl) (by assumption) ?_
                      simp only [Act.put, List.setIfInBounds_toArray, List.set_cons_zero, List.set_cons_succ]
                      refine any_take 208 (.int .i64 (i : Int)) (i := 18) rfl rfl (by kernel_rfl) (by kernel_rfl) (by kernel_rfl) (fun _ _ _ h => h) (by rfl) (by intro w hSw; (try dsimp only at hSw); go_simp; try with_reducible rfl) (by assumption) ?_
                      simp only [Act.put, List.setIfInBounds_toArray, List.set_cons_zero, List.set_cons_succ]
                      refine any_take 209 (.int .i64 ((i : Int) + 1)) (i := 19) rfl rfl (by kernel_rfl) (by kernel_rfl) (by kernel_rfl) (fun _ _ _ h => h) (by rfl) (by intro w hSw; (try dsimp only at hSw); go_simp; try with_reducible rfl) (by assumption) ?_
                      simp only [Act.put, List.setIfInBounds_toArray, List.set_cons_zero, List.set_cons_succ]
                      refine any_take 210 (.slice (some (ad2.add (i * 2))) 1 (ac - i)) (i := 20) rfl rfl (by kernel_rfl) (by kernel_rfl) (by kernel_rfl) (fun _ _ _ h => h) (by rfl) (by intro w hSw; (try dsimp only at hSw); go_simp; try with_reducible rfl) (by assumption) ?_
                      simp only [Act.put, List.setIfInBounds_toArray, List.set_cons_zero, List.set_cons_succ]
                      refine wpAnyH_ready (rs := [21]) (by kernel_rfl) (by simp) ?_
                      refine AllReadyH.cons rfl (fun K' hK => ?_) AllReadyH.nil
                      go_simp
                      go_at_call 31
                      refine (CS.out _ ((Fr.refl _ _).drew)).mono ?_
                      rintro e w15 ⟨⟨bb, rfl, hbb⟩, f15⟩
                      have F15 : Fr No wr w15 := Fr.trans' ((Fr.refl _ _).drew) f15 (fun _ _ e => e)
                      have hbf : bb = true ↔ x.f = y.f := by
                        rw [hbb]
                        simp
                      dsimp only
                      refine hK.out _ _ trivial (fun hHeld => ?_)
                      clear hK CS
                      try simp only [Act.put, List.setIfInBounds_toArray, List.set_cons_zero, List.set_cons_succ]
                      refine any_take 212 (.bool bb) (i := 22) rfl rfl (by kernel_rfl) (by kernel_rfl) (by kernel_rfl) (fun _ _ _ h => h) (by rfl) (by intro w hSw; (try dsimp only at hSw); go_simp; try with_reducible rfl) (by assumption) ?_
                      simp only [Act.put, List.setIfInBounds_toArray, List.set_cons_zero, List.set_cons_succ]
                      refine wpAnyH_done (by kernel_rfl) ?_ _
                      clear hHeld hbb f15
                      obtain ⟨k0, k1⟩ := (Hat.out w15 F15).1
                      obtain ⟨k2, k3⟩ := (Hat.out w15 F15).2
                      have HFe := Lib.hid ((HF11.out.trans' Hwr.out (fun _ _ e => e)).trans' F15 (fun _ _ e => e))
                      have HFw := Lib.hid (Hwr.out.trans' F15 (fun _ _ e => e))
                      clear Hat F15
                      cases bb with
                      | true =>
                        have Hnx := Lib.hid (Hsucc.out (hbf.1 rfl))
                        clear hbf Hkl Hsucc k0 k1 k2 k3
                        go_wp2
                        go_roundw
                        case rel => exact ⟨i + 1, by omega, by omega, by go_num, Hnx, HFw⟩
                        case measure => simp [intOf]; omega
                      | false =>
                        obtain ⟨hk, hl⟩ := Hkl.out (fun he => by have := hbf.2 he; cases this)
                        rw [hk] at k0
                        rw [hl] at k1
                        obtain ⟨kd, hkd⟩ : ∃ kd, kd = y.kind := ⟨_, rfl⟩
                        obtain ⟨z, hz⟩ : ∃ z, z = y.ws.length := ⟨_, rfl⟩
                        rw [← hkd] at k0 k2
                        rw [← hz] at k1 k3
                        clear hbf Hkl Hsucc hk hl hkd hz
                        go_wp2
                        go_quiet (fail)
                        go_wp2
                        go_ret
                        refine ⟨?_, by first | exact HFe.out.drewN _ | exact HFe.out.drew | exact HFe.out⟩
                        simp
        · have eh4 := decide_eq_true (show (100 : Int) < (on : Int) by omega)
          clear hx hy hk ho
          go_enter Try.func6, Try.ntmps6
          go_wp2_with fail
          refine (C0.out _).mono ?_
          rintro e wb ⟨rfl, f1⟩
          go_wp2
          go_ret
          exact ⟨rfl, f1⟩
      · have eh3 := decide_eq_true (show (100 : Int) < (kn : Int) by omega)
        clear hx hy hk ho
        go_enter Try.func6, Try.ntmps6
        go_wp2_with fail
        refine (C0.out _).mono ?_
        rintro e wb ⟨rfl, f1⟩
        go_wp2
        go_ret
        exact ⟨rfl, f1⟩
    · have eh2 := decide_eq_true (show (20 : Int) < (n2 : Int) by omega)
      clear hx hy hk ho
      go_enter Try.func6, Try.ntmps6
      go_wp2_with fail
      refine (C0.out _).mono ?_
      rintro e wb ⟨rfl, f1⟩
      go_wp2
      go_ret
      exact ⟨rfl, f1⟩
  · have eh1 := decide_eq_true (show (20 : Int) < (n1 : Int) by omega)
    clear hx hy hk ho
    go_enter Try.func6, Try.ntmps6
    go_wp2_with fail
    refine (C0.out _).mono ?_
    rintro e wb ⟨rfl, f1⟩
    go_wp2
    go_ret
    exact ⟨rfl, f1⟩
end Go.Proofs.Ytdmllfjeofiddaa
