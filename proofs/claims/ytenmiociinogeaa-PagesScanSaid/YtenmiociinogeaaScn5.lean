/- The law 'PagesScan'. -/
import Derived.Test.YtenmiociinogeaaTwp5
namespace Go.Proofs.Ytenmiociinogeaa
open Go.RowKit

set_option maxRecDepth 100000 in
set_option maxHeartbeats 16000000 in
theorem scan5_any (la lb : List (Int × Int)) (A B : Option Addr) (n ca m cb : Nat) (lo hi : Int) (w : World) (ha : Sl w w.heap.size A (prs2 la)) (hb : Sl w w.heap.size B (prs2 lb)) (hn : la.length = n) (hm : lb.length = m) (hml : n ≤ 9223372036854775807 ∧ m ≤ 9223372036854775807)
    (va : ∀ x ∈ la, -9223372036854775808 ≤ x.2 ∧ x.2 < 9223372036854775808) (vb : ∀ x ∈ lb, -9223372036854775808 ≤ x.2 ∧ x.2 < 9223372036854775808) :
    Calls Try.prog 4 #[.slice A n ca, .slice B m cb, .int .i64 lo, .int .i64 hi] w fun e w' => e = .returned (.bool true) ∧ Fr No w w' := by
  have Hn := Lib.hid hn
  have Hm := Lib.hid hm
  have Hva := Lib.hid va
  have Hvb := Lib.hid vb
  clear hn hm va vb
  by_cases hnm : 150 < n ∨ 150 < m
  · by_cases hn1 : 150 < n
    · go_enter Try.func4, Try.ntmps4
      go_wp2_with fail
      refine (alive5_any _).mono ?_
      rintro e w1 ⟨rfl, g1⟩
      go_wp2
      go_ret
      exact ⟨rfl, g1⟩
    · have hm1 : 150 < m := by omega
      go_enter Try.func4, Try.ntmps4
      go_wp2_with fail
      refine (alive5_any _).mono ?_
      rintro e w1 ⟨rfl, g1⟩
      go_wp2
      go_ret
      exact ⟨rfl, g1⟩
  · have hn1 : ¬ 150 < n := by omega
    have hm1 : ¬ 150 < m := by omega
    clear hnm
    go_enter Try.func4, Try.ntmps4
    go_wp2_with fail
    refine (alive5_any _).mono ?_
    rintro e w1 ⟨rfl, g1⟩
    have ha1 := ha.since g1
    have hb1 := hb.since g1
    clear ha hb
    go_wp2_with fail
    refine (pOf_any la A n ca w1 ha1 Hn.out (by omega) Hva.out).mono ?_
    rintro e w2 ⟨s, Sa, rfl, hA, hAlo, f2⟩
    have hb2 := hb1.since f2
    have ha2 := ha1.since f2
    have g2 := g1.trans' f2 (fun _ _ e => e)
    clear g1 f2 ha1 hb1
    go_wp2_with fail
    refine (pOf_any lb B m cb w2 hb2 Hm.out (by omega) Hvb.out).mono ?_
    rintro e w3 ⟨t, Sb, rfl, hB, hBlo, f3⟩
    have HA := Lib.hid (hA.fr f3 (fun _ _ e => e))
    have HB := Lib.hid hB
    have ha3 := ha2.since f3
    have hb3 := hb2.since f3
    have G3 := Lib.hid (g2.trans' f3 (fun _ _ e => e))
    clear hA hB hAlo hBlo ha2 hb2 g2 f3
    obtain ⟨pw, px, Hw, Hx⟩ : ∃ pw px, Hid (pw = w3.heap.size) ∧ Hid (px = w3.heap.size + 1) := ⟨_, _, Lib.hid rfl, Lib.hid rfl⟩
    have F0 : Hid (RS ((w3.alloc (.cells #[.slice none 0 0] 32)).alloc (.cells #[.slice none 0 0] 32)) (fun k => k = pw) pw [] ∧ Bk ((w3.alloc (.cells #[.slice none 0 0] 32)).alloc (.cells #[.slice none 0 0] 32)) px 32 #[.slice none 0 0]) := Lib.hid (by
      rw [Hw.out, Hx.out]
      exact ⟨rs_zero ((Bk.made w3 _ _).alloc _), Bk.made1 w3 _ _ _⟩)
    go_wp2
    rw [← Hx.out, ← Hw.out]
    go_loopw [13] (fun iv wr => ∃ (j : Nat) (R : Nat → Prop), j ≤ n ∧ iv = .int .i64 j ∧ Hid (RS wr R pw (ofP (la.take j))) ∧ Hid (∀ k, R k → w3.heap.size ≤ k) ∧ Hid (¬ R px) ∧ Hid (Bk wr px 32 #[.slice none 0 0]) ∧ Fr No w3 wr) (fun i _ => n - (intOf i).toNat)
    case atStart =>
      refine ⟨0, _, by omega, rfl, Lib.hid F0.out.1, Lib.hid (fun k e => ?_), Lib.hid (fun e => ?_), Lib.hid F0.out.2, ((Fr.refl No w3).alloc _).alloc _⟩
      · rw [e, Hw.out]; exact Nat.le_refl _
      · have h1 := Hw.out; have h2 := Hx.out; have h3 : px = pw := e; omega
    case round =>
      clear F0
      obtain ⟨j, R, hj, rfl, hRS, Hlo, Hnx, Hbx, hfr⟩ := hrel
      by_cases hlt : j < n
      · have hjl : j < la.length := by rw [Hn.out]; exact hlt
        obtain ⟨ad, rfl, hadB, d0, d1⟩ := ha3.pair2 hjl
        have Hcx : Hid (∀ W, Fr No w3 W → W.cell? (ad.add (j * 2)) = some (.int .i64 la[j].1) ∧ W.cell? ⟨(ad.add (j * 2)).block, (ad.add (j * 2)).off + 1, none⟩ = some (.int .i64 la[j].2)) := Lib.hid (fun W h =>
          ⟨(h.cell (p := ad.add (j * 2)) (by rw [block_add]; exact hadB) (fun e => e)).trans d0, (h.cell (p := ⟨(ad.add (j * 2)).block, (ad.add (j * 2)).off + 1, none⟩) (by rw [block_add]; exact hadB) (fun e => e)).trans d1⟩)
        have hiv := ofP_inv _ (la.take j) rfl
        have Hst : Hid (ofP (la.take (j + 1)) = if 0 ≤ la[j].1 ∧ la[j].1 ≤ 999 then putP (ofP (la.take j)) la[j].1.toNat la[j].2 else ofP (la.take j)) := Lib.hid (by rw [List.take_succ_eq_append_getElem hjl, ofP_snoc])
        have HI := Lib.hid hiv
        clear d0 d1 hiv
        generalize la[j] = x at *
        obtain ⟨xk, xv⟩ := x
        obtain ⟨c0, c1⟩ := Hcx.out _ hfr
        have Hfr := Lib.hid hfr
        clear hfr
        simp only at c0 c1
        by_cases hk : 0 ≤ xk ∧ xk ≤ 999
        · obtain ⟨kk, rfl⟩ : ∃ kk : Nat, xk = kk := ⟨xk.toNat, by omega⟩
          have hkk : kk < 1000 := by omega
          have Hst2 : Hid (ofP (la.take (j + 1)) = putP (ofP (la.take j)) kk xv) := Lib.hid (by rw [Hst.out, if_pos hk]; rfl)
          go_wp2_with fail
          go_region_held3 (fun w' => w'.cell? (ad.add (j * 2)) = some (.int .i64 kk) ∧ w'.cell? ⟨(ad.add (j * 2)).block, (ad.add (j * 2)).off + 1, none⟩ = some (.int .i64 xv)) (first
            | go_keep
            | exact Hcx.out _ F5)
            (first
             | (go_at_call 15
                refine (rPut_any R pw kk hkk xv (ofP (la.take j)) HI.out wr.drew (hRS.out.fr ((Fr.refl No wr).drew) (fun _ _ e => e))).mono ?_
                rintro e w5 ⟨rfl, R', hR', f', n'⟩
                have F5 : Fr No w3 w5 := Fr.trans' (by first | exact Hfr.out.drew | exact Hfr.out.drewN _ | exact Hfr.out) f' (fun k hk e => by have h1 := Hw.out; have h2 : k = pw := e; omega)))
          all_goals
            have HR5 : Hid (RS w5 R' pw (ofP (la.take (j + 1)))) := Lib.hid (by rw [Hst2.out]; exact hR')
            have Hlo5 : Hid (∀ k, R' k → w3.heap.size ≤ k) := Lib.hid (fun k e => by
              have h1 := Hfr.out.size
              rcases n' k e with e | e
              · exact Hlo.out k e
              · exact Nat.le_trans h1 e)
            have Hnx5 : Hid (¬ R' px) := Lib.hid (fun e => (n' px e).elim Hnx.out (fun e => absurd Hbx.out.lt (Nat.not_lt.2 e)))
            have Hbx5 : Hid (Bk w5 px 32 #[.slice none 0 0]) := Lib.hid (Bk.fr (w := wr.drew) Hbx.out f' (fun e => by have h1 := Hw.out; have h2 := Hx.out; have h3 : px = pw := e; omega))
            clear hR' f' n' HI Hst Hst2 Hcx hRS Hlo Hnx Hbx Hfr c0 c1
            go_wp2
            go_roundw
            case rel => exact ⟨j + 1, R', by omega, by go_num, HR5, Hlo5, Hnx5, Hbx5, F5⟩
            case measure => simp [intOf]; omega
        · have hkn : xk < 0 ∨ 999 < xk := by omega
          have Hst2 : Hid (ofP (la.take (j + 1)) = ofP (la.take j)) := Lib.hid (by rw [Hst.out, if_neg hk])
          go_wp2_with fail
          go_region_held3 (fun w' => w'.cell? (ad.add (j * 2)) = some (.int .i64 xk) ∧ w'.cell? ⟨(ad.add (j * 2)).block, (ad.add (j * 2)).off + 1, none⟩ = some (.int .i64 xv)) (first
            | go_keep
            | exact Hcx.out _ Hfr.out.drew)
            (first
             | (go_at_call 15
                refine (rPut_no xk xv (some ⟨pw, 0, none⟩) hkn wr.drew).mono ?_
                rintro e w5 ⟨rfl, rfl⟩))
          all_goals
            have HR5 : Hid (RS wr.drew R pw (ofP (la.take (j + 1)))) := Lib.hid (by rw [Hst2.out]; exact hRS.out.fr ((Fr.refl No wr).drew) (fun _ _ e => e))
            have Hbx5 : Hid (Bk wr.drew px 32 #[.slice none 0 0]) := Lib.hid Hbx.out
            have F5 := Hfr.out.drew
            clear HI Hst Hst2 Hcx hRS Hbx Hfr c0 c1
            go_wp2
            go_roundw
            case rel => exact ⟨j + 1, R, by omega, by go_num, HR5, Hlo, Hnx, Hbx5, F5⟩
            case measure => simp [intOf]; omega
      · obtain rfl : j = n := by omega
        have hl0 : la.take j = la := List.take_of_length_le (by rw [Hn.out]; exact Nat.le_refl _)
        rw [hl0] at hRS
        clear hl0
        have F0 : Hid (RS wr (fun k => k = px) px [] ∧ (∀ k, R k → ¬ k = px)) := Lib.hid ⟨rs_zero Hbx.out, fun k e e2 => Hnx.out (e2 ▸ e)⟩
        have hpx : Hid (w3.heap.size ≤ px) := Lib.hid (by have h2 := Hx.out; omega)
        clear Hnx Hbx
        go_wp2
        go_loopw [14] (fun iv wr => ∃ (i : Nat) (R2 : Nat → Prop), i ≤ m ∧ iv = .int .i64 i ∧ Hid (RS wr R2 px (ofP (lb.take i))) ∧ Hid (RS wr R pw (ofP la)) ∧ Hid (∀ k, R2 k → w3.heap.size ≤ k) ∧ Hid (∀ k, R k → ¬ R2 k) ∧ Fr No w3 wr) (fun i _ => m - (intOf i).toNat)
        case atStart => exact ⟨0, _, by omega, rfl, Lib.hid F0.out.1, hRS, Lib.hid (fun k e => by rw [e]; exact hpx.out), Lib.hid F0.out.2, hfr⟩
        case round =>
          clear F0 hRS hfr
          obtain ⟨i, R2, hi2, rfl, hRS, hRw, Hlo2, Hap, hfr⟩ := hrel
          by_cases hlt2 : i < m
          · have hil : i < lb.length := by rw [Hm.out]; exact hlt2
            obtain ⟨ad, rfl, hadB, d0, d1⟩ := hb3.pair2 hil
            have Hcx : Hid (∀ W, Fr No w3 W → W.cell? (ad.add (i * 2)) = some (.int .i64 lb[i].1) ∧ W.cell? ⟨(ad.add (i * 2)).block, (ad.add (i * 2)).off + 1, none⟩ = some (.int .i64 lb[i].2)) := Lib.hid (fun W h =>
              ⟨(h.cell (p := ad.add (i * 2)) (by rw [block_add]; exact hadB) (fun e => e)).trans d0, (h.cell (p := ⟨(ad.add (i * 2)).block, (ad.add (i * 2)).off + 1, none⟩) (by rw [block_add]; exact hadB) (fun e => e)).trans d1⟩)
            have hiv := ofP_inv _ (lb.take i) rfl
            have Hst : Hid (ofP (lb.take (i + 1)) = if 0 ≤ lb[i].1 ∧ lb[i].1 ≤ 999 then putP (ofP (lb.take i)) lb[i].1.toNat lb[i].2 else ofP (lb.take i)) := Lib.hid (by rw [List.take_succ_eq_append_getElem hil, ofP_snoc])
            have HI := Lib.hid hiv
            clear d0 d1 hiv
            generalize lb[i] = x at *
            obtain ⟨xk, xv⟩ := x
            obtain ⟨c0, c1⟩ := Hcx.out _ hfr
            have Hfr := Lib.hid hfr
            clear hfr
            simp only at c0 c1
            by_cases hk : 0 ≤ xk ∧ xk ≤ 999
            · obtain ⟨kk, rfl⟩ : ∃ kk : Nat, xk = kk := ⟨xk.toNat, by omega⟩
              have hkk : kk < 1000 := by omega
              have Hst2 : Hid (ofP (lb.take (i + 1)) = putP (ofP (lb.take i)) kk xv) := Lib.hid (by rw [Hst.out, if_pos hk]; rfl)
              go_wp2_with fail
              go_region_held3 (fun w' => w'.cell? (ad.add (i * 2)) = some (.int .i64 kk) ∧ w'.cell? ⟨(ad.add (i * 2)).block, (ad.add (i * 2)).off + 1, none⟩ = some (.int .i64 xv)) (first
                | go_keep
                | exact Hcx.out _ F5)
                (first
                 | (go_at_call 15
                    refine (rPut_any R2 px kk hkk xv (ofP (lb.take i)) HI.out wr.drew (hRS.out.fr ((Fr.refl No wr).drew) (fun _ _ e => e))).mono ?_
                    rintro e w5 ⟨rfl, R', hR', f', n'⟩
                    have F5 : Fr No w3 w5 := Fr.trans' (Hfr.out.drew) f' (fun k hk e => by have h1 := hpx.out; have h2 : k = px := e; omega)))
              all_goals
                have HR5 : Hid (RS w5 R' px (ofP (lb.take (i + 1)))) := Lib.hid (by rw [Hst2.out]; exact hR')
                have Hlo5 : Hid (∀ k, R' k → w3.heap.size ≤ k) := Lib.hid (fun k e => by
                  have h1 := Hfr.out.size
                  rcases n' k e with e | e
                  · exact Hlo2.out k e
                  · exact Nat.le_trans h1 e)
                have Hap5 : Hid (∀ k, R k → ¬ R' k) := Lib.hid (fun k e1 e => (n' k e).elim (Hap.out k e1) (fun e => absurd (hRw.out.lt k e1) (Nat.not_lt.2 e)))
                have HRw5 : Hid (RS w5 R pw (ofP la)) := Lib.hid ((hRw.out.fr ((Fr.refl No wr).drew) (fun _ _ e => e)).fr f' (fun k e e2 => Hap.out k e ((show k = px from e2) ▸ hRS.out.self)))
                clear hR' f' n' HI Hst Hst2 Hcx hRS hRw Hlo2 Hap Hfr c0 c1
                go_wp2
                go_roundw
                case rel => exact ⟨i + 1, R', by omega, by go_num, HR5, HRw5, Hlo5, Hap5, F5⟩
                case measure => simp [intOf]; omega
            · have hkn : xk < 0 ∨ 999 < xk := by omega
              have Hst2 : Hid (ofP (lb.take (i + 1)) = ofP (lb.take i)) := Lib.hid (by rw [Hst.out, if_neg hk])
              go_wp2_with fail
              go_region_held3 (fun w' => w'.cell? (ad.add (i * 2)) = some (.int .i64 xk) ∧ w'.cell? ⟨(ad.add (i * 2)).block, (ad.add (i * 2)).off + 1, none⟩ = some (.int .i64 xv)) (first
                | go_keep
                | exact Hcx.out _ Hfr.out.drew)
                (first
                 | (go_at_call 15
                    refine (rPut_no xk xv (some ⟨px, 0, none⟩) hkn wr.drew).mono ?_
                    rintro e w5 ⟨rfl, rfl⟩))
              all_goals
                have HR5 : Hid (RS wr.drew R2 px (ofP (lb.take (i + 1)))) := Lib.hid (by rw [Hst2.out]; exact hRS.out.fr ((Fr.refl No wr).drew) (fun _ _ e => e))
                have HRw5 : Hid (RS wr.drew R pw (ofP la)) := Lib.hid (hRw.out.fr ((Fr.refl No wr).drew) (fun _ _ e => e))
                have F5 := Hfr.out.drew
                clear HI Hst Hst2 Hcx hRS hRw Hfr c0 c1
                go_wp2
                go_roundw
                case rel => exact ⟨i + 1, R2, by omega, by go_num, HR5, HRw5, Hlo2, Hap, F5⟩
                case measure => simp [intOf]; omega
          · obtain rfl : i = m := by omega
            have hl0 : lb.take i = lb := List.take_of_length_le (by rw [Hm.out]; exact Nat.le_refl _)
            rw [hl0] at hRS
            have ia := ofP_inv _ la rfl
            have ib := ofP_inv _ lb rfl
            have la1 := ia.len.1
            have lb1 := ib.len.1
            have hsp := some_pages ia
            have HPa : Hid (∀ W, Fr No wr W → PS W Sa s (ofP la)) := Lib.hid (fun W h => (HA.out.fr hfr (fun _ _ e => e)).fr h (fun _ _ e => e))
            have HPb : Hid (∀ W, Fr No wr W → PS W Sb t (ofP lb)) := Lib.hid (fun W h => (HB.out.fr hfr (fun _ _ e => e)).fr h (fun _ _ e => e))
            have HRa : Hid (∀ W, Fr No wr W → RS W R pw (ofP la)) := Lib.hid (fun W h => hRw.out.fr h (fun _ _ e => e))
            have HRb : Hid (∀ W, Fr No wr W → RS W R2 px (ofP lb)) := Lib.hid (fun W h => hRS.out.fr h (fun _ _ e => e))
            have hcell : ∃ D dc, ∀ W, Fr No wr W → W.cell? ⟨pw, 0, none⟩ = some (.slice D (ofP la).length dc) := by
              obtain ⟨v, hs, hd, hll, -⟩ := hRw.out
              obtain ⟨D, dc, rfl, -⟩ := hd.shape
              refine ⟨D, dc, fun W h => ?_⟩
              have := (hd.fr h (fun e => e) (fun _ _ e => e)).self.cell 0
              simp at this
              rw [this, hll]
            obtain ⟨D, dc, hcell⟩ := hcell
            have Hcell := Lib.hid hcell
            have Q1 : Hid (∀ W, Fr No wr W → Calls Try.prog 16 #[.pointer (some ⟨s, 0, none⟩), .pointer (some ⟨pw, 0, none⟩)] W fun e w' => e = .returned (.bool true) ∧ Fr No W w') := Lib.hid (fun W h => same5_any Sa R s pw (ofP la) ia W (HPa.out W h) (HRa.out W h))
            have Q2 : Hid (∀ W, Fr No wr W → _) := Lib.hid (fun W h => pScan_any lo hi ia (HPa.out W h))
            have Q3 : Hid (∀ W, Fr No wr W → _) := Lib.hid (fun W h => rScan_any R pw (ofP la) ia lo hi W (HRa.out W h))
            have Q5 : Hid (∀ W, Fr No wr W → _) := Lib.hid (fun W h => pSame_any ia ib (HPa.out W h) (HPb.out W h))
            have Q6 : Hid (∀ W, Fr No wr W → _) := Lib.hid (fun W h => rPairs_any R pw (ofP la) W (HRa.out W h) (by omega))
            have Q7 : Hid (∀ W, Fr No wr W → _) := Lib.hid (fun W h => rPairs_any R2 px (ofP lb) W (HRb.out W h) (by omega))
            have Q9 : Hid (∀ W, Fr No wr W → _) := Lib.hid (fun W h => pSame_nil ia (HPa.out W h))
            have hsl : (scanP (ofP la).flatten lo hi).length ≤ 1000 := Nat.le_trans (List.length_filter_le _ _) la1
            have G0 := Fr.refl No wr
            have HG : Hid (Fr No w wr) := Lib.hid (G3.out.trans' hfr (fun _ _ e => e))
            clear hl0 ia ib HPa HPb HRa HRb hRS hRw Hlo2 Hap hcell HA HB G3 hfr ha3 hb3
            generalize scanP (ofP la).flatten lo hi = sc at *
            generalize (ofP la).flatten = fa at *
            generalize (ofP lb).flatten = fb at *
            generalize (ofP la).length = pl at *
            have he : (decide (fa = fb) == decide (fa = fb)) = true := by simp

            by_cases hfa : fa = []
            · have hfd : decide (fa = []) = true := decide_eq_true hfa
              obtain rfl : pl = 0 := by rw [hfa] at hsp; simp at hsp; omega
              rw [hfd] at Q9
              clear hfd hfa hsp
              go_wp2_with fail
              go_region_held3 (fun w' => w'.cell? ⟨pw, 0, none⟩ = some (.slice D 0 dc)) (first
                | exact Hcell.out _ G9
                | exact Hcell.out _ G8
                | exact Hcell.out _ G7
                | exact Hcell.out _ G6
                | exact Hcell.out _ G5
                | exact Hcell.out _ G4
                | exact Hcell.out _ G33
                | exact Hcell.out _ G2
                | exact Hcell.out _ G1
                | exact Hcell.out _ G0.drew
                | exact Hcell.out _ G0
                | go_keep)
                (first
                 | (go_at_call 16
                    refine (Q1.out _ (by first | exact G0.drew | exact G0)).mono ?_
                    rintro e v1 ⟨rfl, h1⟩
                    have G1 : Fr No wr v1 := Fr.trans' (by first | exact G0.drew | exact G0) h1 (fun _ _ e => e))
                 | (go_at_call 19
                    refine (Q2.out _ (by first | exact G1.drew | exact G1)).mono ?_
                    rintro e v2 ⟨A2, c2, rfl, hs2, h2⟩
                    have G2 : Fr No wr v2 := Fr.trans' (by first | exact G1.drew | exact G1) h2 (fun _ _ e => e))
                 | (go_at_call 20
                    refine (Q3.out _ (by first | exact G2.drew | exact G2)).mono ?_
                    rintro e v3 ⟨A3, c3, rfl, own3, h3⟩
                    have G33 : Fr No wr v3 := Fr.trans' (by first | exact G2.drew | exact G2) h3 (fun _ _ e => e)
                    have hs3 := Sl.ofOwn own3
                    have hs23 := Sl.since hs2 (Fr.trans' (by first | exact (Fr.refl No v2).drew | exact Fr.refl No v2) h3 (fun _ _ e => e)))
                 | (go_at_call 18
                    have _ := G7
                    refine (refSame5_any fa fb A6 A7 _ _ c6 c7 _ (Sl.since hs67 (by first | exact (Fr.refl No v7).drew | exact Fr.refl No v7)) (Sl.since hs7 (by first | exact (Fr.refl No v7).drew | exact Fr.refl No v7)) rfl rfl (by omega) (by omega)).mono ?_
                    rintro e v8 ⟨rfl, h8⟩
                    have G8 : Fr No wr v8 := Fr.trans' (by first | exact G7.drew | exact G7) h8 (fun _ _ e => e))
                 | (go_at_call 18
                    refine (refSame5_any sc sc A2 A3 _ _ c2 c3 _ (Sl.since hs23 (by first | exact (Fr.refl No v3).drew | exact Fr.refl No v3)) (Sl.since hs3 (by first | exact (Fr.refl No v3).drew | exact Fr.refl No v3)) rfl rfl (by omega) (by omega)).mono ?_
                    rintro e v4 ⟨rfl, h4⟩
                    rw [decide_eq_true (rfl : sc = sc)]
                    have G4 : Fr No wr v4 := Fr.trans' (by first | exact G33.drew | exact G33) h4 (fun _ _ e => e))
                 | (go_at_call 21
                    have _ := G8
                    refine (Q9.out _ (by first | exact G8.drew | exact G8)).mono ?_
                    rintro e v9 ⟨rfl, h9⟩
                    have G9 : Fr No wr v9 := Fr.trans' (by first | exact G8.drew | exact G8) h9 (fun _ _ e => e))
                 | (go_at_call 21
                    refine (Q5.out _ (by first | exact G4.drew | exact G4)).mono ?_
                    rintro e v5 ⟨rfl, h5⟩
                    have G5 : Fr No wr v5 := Fr.trans' (by first | exact G4.drew | exact G4) h5 (fun _ _ e => e))
                 | (go_at_call 22
                    have _ := G6
                    refine (Q7.out _ (by first | exact G6.drew | exact G6)).mono ?_
                    rintro e v7 ⟨A7, c7, rfl, own7, h7⟩
                    have G7 : Fr No wr v7 := Fr.trans' (by first | exact G6.drew | exact G6) h7 (fun _ _ e => e)
                    have hs7 := Sl.ofOwn own7
                    have hs67 := Sl.since hs6 (Fr.trans' (by first | exact (Fr.refl No v6).drew | exact Fr.refl No v6) h7 (fun _ _ e => e)))
                 | (go_at_call 22
                    refine (Q6.out _ (by first | exact G5.drew | exact G5)).mono ?_
                    rintro e v6 ⟨A6, c6, rfl, own6, h6⟩
                    have G6 : Fr No wr v6 := Fr.trans' (by first | exact G5.drew | exact G5) h6 (fun _ _ e => e)
                    have hs6 := Sl.ofOwn own6))
              all_goals
                have hF := HG.out.trans' G9 (fun _ _ e => e)
                clear HG G1 G2 G33 G4 G5 G6 G7 G8 G9 hs2 own3 hs3 hs23 own6 hs6 own7 hs7 hs67 h1 h2 h3 h4 h5 h6 h7 h8 h9 Hcell Q1 Q2 Q3 Q5 Q6 Q7 Q9
                go_wp2
                go_ret
                exact ⟨rfl, by first | exact hF | exact hF.drew | exact hF.drewN _⟩
            · have hfd : decide (fa = []) = false := decide_eq_false hfa
              have hpl : 0 < pl := by rw [hsp]; exact List.length_pos_iff.2 hfa
              have hpl0 : ((pl : Int) == 0) = false := by rw [beq_eq_false_iff_ne]; omega
              rw [hfd] at Q9
              go_wp2_with fail
              go_region_held3 (fun w' => w'.cell? ⟨pw, 0, none⟩ = some (.slice D pl dc)) (first
                | exact Hcell.out _ G9
                | exact Hcell.out _ G8
                | exact Hcell.out _ G7
                | exact Hcell.out _ G6
                | exact Hcell.out _ G5
                | exact Hcell.out _ G4
                | exact Hcell.out _ G33
                | exact Hcell.out _ G2
                | exact Hcell.out _ G1
                | exact Hcell.out _ G0.drew
                | exact Hcell.out _ G0
                | go_keep)
                (first
                 | (go_at_call 16
                    refine (Q1.out _ (by first | exact G0.drew | exact G0)).mono ?_
                    rintro e v1 ⟨rfl, h1⟩
                    have G1 : Fr No wr v1 := Fr.trans' (by first | exact G0.drew | exact G0) h1 (fun _ _ e => e))
                 | (go_at_call 19
                    refine (Q2.out _ (by first | exact G1.drew | exact G1)).mono ?_
                    rintro e v2 ⟨A2, c2, rfl, hs2, h2⟩
                    have G2 : Fr No wr v2 := Fr.trans' (by first | exact G1.drew | exact G1) h2 (fun _ _ e => e))
                 | (go_at_call 20
                    refine (Q3.out _ (by first | exact G2.drew | exact G2)).mono ?_
                    rintro e v3 ⟨A3, c3, rfl, own3, h3⟩
                    have G33 : Fr No wr v3 := Fr.trans' (by first | exact G2.drew | exact G2) h3 (fun _ _ e => e)
                    have hs3 := Sl.ofOwn own3
                    have hs23 := Sl.since hs2 (Fr.trans' (by first | exact (Fr.refl No v2).drew | exact Fr.refl No v2) h3 (fun _ _ e => e)))
                 | (go_at_call 18
                    have _ := G7
                    refine (refSame5_any fa fb A6 A7 _ _ c6 c7 _ (Sl.since hs67 (by first | exact (Fr.refl No v7).drew | exact Fr.refl No v7)) (Sl.since hs7 (by first | exact (Fr.refl No v7).drew | exact Fr.refl No v7)) rfl rfl (by omega) (by omega)).mono ?_
                    rintro e v8 ⟨rfl, h8⟩
                    have G8 : Fr No wr v8 := Fr.trans' (by first | exact G7.drew | exact G7) h8 (fun _ _ e => e))
                 | (go_at_call 18
                    refine (refSame5_any sc sc A2 A3 _ _ c2 c3 _ (Sl.since hs23 (by first | exact (Fr.refl No v3).drew | exact Fr.refl No v3)) (Sl.since hs3 (by first | exact (Fr.refl No v3).drew | exact Fr.refl No v3)) rfl rfl (by omega) (by omega)).mono ?_
                    rintro e v4 ⟨rfl, h4⟩
                    rw [decide_eq_true (rfl : sc = sc)]
                    have G4 : Fr No wr v4 := Fr.trans' (by first | exact G33.drew | exact G33) h4 (fun _ _ e => e))
                 | (go_at_call 21
                    have _ := G8
                    refine (Q9.out _ (by first | exact G8.drew | exact G8)).mono ?_
                    rintro e v9 ⟨rfl, h9⟩
                    have G9 : Fr No wr v9 := Fr.trans' (by first | exact G8.drew | exact G8) h9 (fun _ _ e => e))
                 | (go_at_call 21
                    refine (Q5.out _ (by first | exact G4.drew | exact G4)).mono ?_
                    rintro e v5 ⟨rfl, h5⟩
                    have G5 : Fr No wr v5 := Fr.trans' (by first | exact G4.drew | exact G4) h5 (fun _ _ e => e))
                 | (go_at_call 22
                    have _ := G6
                    refine (Q7.out _ (by first | exact G6.drew | exact G6)).mono ?_
                    rintro e v7 ⟨A7, c7, rfl, own7, h7⟩
                    have G7 : Fr No wr v7 := Fr.trans' (by first | exact G6.drew | exact G6) h7 (fun _ _ e => e)
                    have hs7 := Sl.ofOwn own7
                    have hs67 := Sl.since hs6 (Fr.trans' (by first | exact (Fr.refl No v6).drew | exact Fr.refl No v6) h7 (fun _ _ e => e)))
                 | (go_at_call 22
                    refine (Q6.out _ (by first | exact G5.drew | exact G5)).mono ?_
                    rintro e v6 ⟨A6, c6, rfl, own6, h6⟩
                    have G6 : Fr No wr v6 := Fr.trans' (by first | exact G5.drew | exact G5) h6 (fun _ _ e => e)
                    have hs6 := Sl.ofOwn own6))
              all_goals
                have hF := HG.out.trans' G9 (fun _ _ e => e)
                clear HG G1 G2 G33 G4 G5 G6 G7 G8 G9 hs2 own3 hs3 hs23 own6 hs6 own7 hs7 hs67 h1 h2 h3 h4 h5 h6 h7 h8 h9 Hcell Q1 Q2 Q3 Q5 Q6 Q7 Q9
                go_wp2
                go_ret
                exact ⟨rfl, by first | exact hF | exact hF.drew | exact hF.drewN _⟩
end Go.Proofs.Ytenmiociinogeaa
