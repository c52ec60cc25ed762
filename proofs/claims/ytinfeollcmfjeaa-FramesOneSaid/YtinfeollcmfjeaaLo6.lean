/- The law 'FramesOne'. -/
import Derived.Test.YtinfeollcmfjeaaLg6
import Derived.Test.YtinfeollcmfjeaaWds6
namespace Go.Proofs.Ytinfeollcmfjeaa
open Go.RowKit

set_option maxRecDepth 100000 in
set_option maxHeartbeats 8000000 in
theorem lawOne_any (ep n : Int) (he : -9223372036854775808 ≤ ep ∧ ep < 9223372036854775808) (hn : -9223372036854775808 ≤ n ∧ n < 9223372036854775808) (x : FrV) (l : List Nat) (h64 : ∀ u ∈ l, u < 18446744073709551616) (m : Nat) (A : Option Addr) (c : Nat) (w : World) (hx : x.Fit w w.heap.size) (h : Sl w w.heap.size A (u64s l)) (hm : l.length = m) (hmc : m ≤ c) (hc : c ≤ maxLen) :
    Calls Try.prog 3 #[.int .i64 ep, .int .i64 n, x.agg, .slice A m c] w fun e w' => e = .returned (.bool true) ∧ Fr No w w' := by
  have hm63 : m ≤ 9223372036854775807 := by unfold maxLen at hc; omega
  have f0 : Fr No w (w.alloc (.cells #[.int .i64 x.kind, .slice x.A x.ws.length x.c] 24)) := (Fr.refl _ _).alloc _
  have HB := Lib.hid (fun W (hW : Fr No (w.alloc (.cells #[.int .i64 x.kind, .slice x.A x.ws.length x.c] 24)) W) => (Bk.made w 24 #[.int .i64 x.kind, .slice x.A x.ws.length x.c]).fr hW (fun e => e))
  have HX := Lib.hid (fun W (hW : Fr No w W) => hx.since hW)
  have HG := Lib.hid (fun W (hW : Fr No w W) => great6_any [x] (some ⟨W.heap.size, 0, none⟩) 1 1 _ (frs_one W x (hx.since hW)) rfl (by omega))
  have HP := Lib.hid (fun W (hW : Fr No w W) => put_any ep n he hn x W (hx.since hW))
  have HM := Lib.hid (fun W => may_any x W)
  have HRM := Lib.hid (fun W => refMay_any x W)
  have Hs := Lib.hid (fun W (hW : Fr No w W) => h.since hW)
  have Hm := Lib.hid hm
  have H64 := Lib.hid h64
  have He := Lib.hid he
  have Hn := Lib.hid hn
  have Hmc := Lib.hid hmc
  have Hxl := Lib.hid hx.lt
  have Hcap := Lib.hid hx.cap
  have Hcap2 := Lib.hid hx.cap2
  show Calls _ _ #[_, _, Value.agg #[.int .i64 x.kind, .slice x.A x.ws.length x.c], _] _ _
  obtain ⟨xk, xA, xw, xc⟩ := x
  simp only [FrV.agg, FrV.f] at HB HX HG HP HM HRM Hxl Hcap Hcap2 f0 ⊢
  clear hx h hm h64 he hn hc hmc
  obtain ⟨b, Hb⟩ : ∃ b, Hid (b = w.heap.size) := ⟨_, Lib.hid rfl⟩
  obtain ⟨xm, Hxm⟩ : ∃ xm, Hid (xm = xw.length) := ⟨_, Lib.hid rfl⟩
  simp only [← Hxm.out] at HB HG HP HM HRM Hcap f0 ⊢
  go_enter Try.func3, Try.ntmps3
  go_wp2_with fail
  refine (alive6_any _).mono ?_
  rintro e w1 ⟨rfl, f1⟩
  have g1 := f0.trans' f1 (fun _ _ e => e)
  have b1 := HB.out _ f1
  have x0 : w1.cell? ⟨w.heap.size, 0, none⟩ = some (.int .i64 xk) := b1.cell 0
  have x1 : w1.cell? ⟨w.heap.size, 1, none⟩ = some (.slice xA xm xc) := b1.cell 1
  have HG1 := Lib.hid (HG.out w1 g1)
  have G1 := Lib.hid g1
  have F1 := Lib.hid f1
  clear f0 f1 g1 b1 HG
  go_wp2_with fail
  refine HG1.out.mono ?_
  rintro e w2 ⟨⟨bg, rfl, hbg⟩, rfl⟩
  obtain ⟨w2, W2⟩ : ∃ w2, Hid (w2 = w1.alloc (.cells #[.int .i64 xk, .slice xA xm xc] 24)) := ⟨_, Lib.hid rfl⟩
  have f2 : Fr No w1 w2 := by rw [W2.out]; exact (Fr.refl _ _).alloc _
  have g2 := G1.out.trans' f2 (fun _ _ e => e)
  have F2 := Lib.hid (F1.out.trans' f2 (fun _ _ e => e))
  have G2 := Lib.hid g2
  rw [← W2.out]
  clear x0 x1 HG1 f2 g2 G1 F1
  cases bg with
  | true =>
    clear hbg
    go_wp2
    go_ret
    exact ⟨rfl, G2.out⟩
  | false =>
    obtain ⟨-, hxl⟩ := hbg rfl
    have hxl2 : xm ≤ 2100 := by rw [Hxm.out]; exact hxl ⟨xk, xA, xw, xc⟩ (by simp)
    clear hbg hxl
    by_cases hbig : 100 < m
    · have hd : decide ((100 : Int) < (m : Int)) = true := by simp; omega
      go_wp2
      go_ret
      exact ⟨rfl, G2.out⟩
    · have hd : decide ((100 : Int) < (m : Int)) = false := by simp; omega
      have b2 := HB.out _ F2.out
      have x0 : w2.cell? ⟨w.heap.size, 0, none⟩ = some (.int .i64 xk) := b2.cell 0
      have x1 : w2.cell? ⟨w.heap.size, 1, none⟩ = some (.slice xA xm xc) := b2.cell 1
      clear b2
      go_wp2_with fail
      refine (HP.out _ G2.out).mono ?_
      rintro e w3 ⟨A3, c3, rfl, hown3, f3⟩
      clear x0 x1 hd
      have G3 := Lib.hid (G2.out.trans' f3 (fun _ _ e => e))
      have F3 := Lib.hid (F2.out.trans' f3 (fun _ _ e => e))
      have HO3 := Lib.hid hown3
      clear f3 hown3 HP G2 F2 W2
      obtain ⟨pl, Hpl⟩ : ∃ pl, Hid (pl = putP ep n ⟨xk, xw⟩) := ⟨_, Lib.hid rfl⟩
      rw [← Hpl.out] at HO3 ⊢
      obtain ⟨p, Hp⟩ : ∃ p, Hid (p = pl.length) := ⟨_, Lib.hid rfl⟩
      rw [← Hp.out] at HO3 ⊢
      have b3 := HB.out _ F3.out
      have x0 : w3.cell? ⟨w.heap.size, 0, none⟩ = some (.int .i64 xk) := b3.cell 0
      have x1 : w3.cell? ⟨w.heap.size, 1, none⟩ = some (.slice xA xm xc) := b3.cell 1
      by_cases hall : frmOk ⟨xk, xw⟩ = true ∧ numOk ep = true ∧ numOk n = true
      · obtain ⟨h1, h2, h3⟩ := hall
        have hpw : pl = putW ep n ⟨xk, xw⟩ := by rw [Hpl.out]; unfold putP; rw [if_pos ⟨h1, h2, h3⟩]
        have hp1 : p = xm + 1 := by rw [Hp.out, hpw, putW_len, Hxm.out]
        have hxl3 : xm ≤ 2000 := by have := ((frmOk_iff _).1 h1).2.2; simp only at this; rw [Hxm.out]; omega
        have H64a : Hid (∀ u ∈ pl ++ l, u < 18446744073709551616) := Lib.hid (fun u hu => by
          rcases List.mem_append.1 hu with hu | hu
          · rw [hpw] at hu
            exact putW_lt ep n _ Hxl.out u hu
          · exact H64.out u hu)
        have HGt : Hid (∀ W A' c', Sl W W.heap.size A' (u64s (pl ++ l)) → p + m ≤ c' → c' ≤ maxLen → Calls Try.prog 13 #[.int .i64 ep, .int .i64 n, .slice A' (p + m) c'] W (GotP W (some (⟨xk, xw⟩, p)))) := Lib.hid (fun W A' c' hs q1 q2 => by
          have := get_any ep n He.out Hn.out (pl ++ l) H64a.out (p + m) A' c' W hs (by rw [List.length_append, Hm.out, ← Hp.out]) q1 q2
          rw [hpw, getF_put ep n ⟨xk, xw⟩ l h2 h3 h1] at this
          simp only at this
          rw [← Hxm.out, ← hp1] at this
          exact this)
        have HP1 := Lib.hid hp1
        have hpb : p ≤ 2001 := by omega
        have hpg : 1 ≤ p := by omega
        clear hp1
        have HPt : Hid (∀ W, Fr No w W → Calls Try.prog 15 #[.int .i64 ep, .int .i64 n, .agg #[.int .i64 xk, .slice xA xm xc]] W fun e w' => ∃ A' c', e = .returned (.slice A' p c') ∧ Sl w' w'.heap.size A' (u64s pl) ∧ Fr No W w') := Lib.hid (fun W hW => by
          have := refPut_any ep n h2 h3 ⟨xk, xA, xw, xc⟩ W (HX.out W hW) (by simp only; rw [← Hxm.out]; omega)
          simp only [FrV.agg, FrV.f, ← Hxm.out] at this
          refine this.mono ?_
          rintro e w' ⟨A', c', rfl, hown, hf⟩
          rw [← hpw, ← Hp.out] at hown ⊢
          exact ⟨A', c', rfl, Sl.ofOwn hown, hf⟩)
        have HE : Hid (∀ W, Calls Try.prog 11 #[.int .i64 ep] W fun e w' => e = .returned (.bool true) ∧ W = w') := Lib.hid (fun W => by have := refNumber_any ep W; rwa [h2] at this)
        have HN : Hid (∀ W, Calls Try.prog 11 #[.int .i64 n] W fun e w' => e = .returned (.bool true) ∧ W = w') := Lib.hid (fun W => by have := refNumber_any n W; rwa [h3] at this)
        have HBx := Lib.hid (fun W (hW : Fr No w3 W) => HB.out W (F3.out.trans' hW (fun _ _ e => e)))
        rw [h1] at HM HRM
        have HpL := Lib.hid (Sl.ofOwn HO3.out)
        clear h1 h2 h3 hpw b3 Hpl H64 He Hn Hxl hxl2 HB F3 hm63
        rw [← Hb.out] at x0 x1 HBx ⊢
        go_wp2_with fail
        refine (HRM.out _).mono ?_
        rintro e w4 ⟨rfl, f4⟩
        have F4 := Lib.hid f4
        have g4 := G3.out.trans' f4 (fun _ _ e => e)
        clear x0 x1 f4
        go_wp2_with fail
        refine (HE.out _).mono ?_
        rintro e w' ⟨rfl, rfl⟩
        go_wp2_with fail
        refine (HN.out _).mono ?_
        rintro e w' ⟨rfl, rfl⟩
        have f5 : Fr No w4 (w4.alloc (.cells #[] 43)) := (Fr.refl _ _).alloc _
        have hown5 := World.ownsRow_lit (base := w4.heap.size) (e := 43) (size := 1) w4 #[] 0 (Nat.le_refl _) (by unfold maxLen; omega) rfl
        have hsl5 : Sl (w4.alloc (.cells #[] 43)) (w4.alloc (.cells #[] 43)).heap.size A3 (u64s pl) := (HpL.out.since F4.out).since f5
        have G4 := Lib.hid g4
        have hg4 := g4.size
        go_wp2_with (first
          | (at_builtin
             have _ := hown6
             refine append_words rfl _ _ rfl w4.heap.size A6 p c6 pl rfl _ A m c l rfl Hm.out (Hs.out w6 g6) hown6 (by omega) f6.size ?_
             intro A7 c7 w7 hown7 hf7 hg7
             have f7 : Fr No w4 w7 := f6.trans' hf7 (fun k hk e => by have := (hown6.lt k e).1; omega)
             clear hown6 hf7 hg7)
          | (at_builtin
             refine append_words rfl _ _ rfl w4.heap.size (some ⟨w4.heap.size, 0, none⟩) 0 0 [] rfl _ A3 p c3 pl rfl Hp.out.symm hsl5 (by simpa [u64s] using hown5) (by omega) (by simp) ?_
             intro A6 c6 w6 hown6 hf6 hg6
             rw [show 0 + p = p by omega] at hown6 ⊢
             simp only [List.nil_append] at hown6
             have f6 : Fr No w4 w6 := f5.trans' hf6 (fun k hk e => by simp [Value.ownBlock] at e; omega)
             have g6 := G4.out.trans' f6 (fun _ _ e => e)
             clear hf6 hg6 hown5 hsl5 f5))
        have hsh : p + m ≤ c7 ∧ c7 ≤ maxLen := by
          obtain ⟨_, _, hv, q1, q2, -⟩ := own_shape hown7
          simp only [Value.slice.injEq] at hv
          obtain ⟨-, -, rfl⟩ := hv
          exact ⟨q1, q2⟩
        refine (HGt.out w7 A7 c7 (Sl.ofOwn hown7) hsh.1 hsh.2).mono ?_
        rintro e w8 ⟨⟨yk, yA, yw, yc⟩, k, rfl, f8, hy, -, -, hr⟩
        simp only [Option.getD_some, Prod.mk.injEq] at hr
        obtain ⟨hff, rfl⟩ := hr
        have Hff := Lib.hid hff
        have f47 := F4.out.trans' f7 (fun _ _ e => e)
        have F8 := Lib.hid (f47.trans' f8 (fun _ _ e => e))
        have Hy := Lib.hid hy
        clear hff hown7 hsh f6 g6 f7 f47 f8 hy HGt HE HN HRM
        obtain ⟨ym, Hym⟩ : ∃ ym, Hid (ym = yw.length) := ⟨_, Lib.hid rfl⟩
        unfold FrV.agg
        dsimp only
        rw [← Hym.out]
        have fY : Fr No w8 (w8.alloc (.cells #[.int .i64 yk, .slice yA ym yc] 24)) := (Fr.refl _ _).alloc _
        have G8 := Lib.hid (F8.out.trans' fY (fun _ _ e => e))
        have BY := Lib.hid (fun W (hW : Fr No (w8.alloc (.cells #[.int .i64 yk, .slice yA ym yc] 24)) W) => (Bk.made w8 24 #[.int .i64 yk, .slice yA ym yc]).fr hW (fun e => e))
        have HyY := Lib.hid (fun W (hW : Fr No (w8.alloc (.cells #[.int .i64 yk, .slice yA ym yc] 24)) W) => Hy.out.since (fY.trans' hW (fun _ _ e => e)))
        have k0 := (HBx.out _ G8.out).cell 0
        have k1 := (HBx.out _ G8.out).cell 1
        simp at k0 k1
        clear fY F8
        simp only [Option.isSome_some]
        go_wp2_with fail
        refine (HM.out _).mono ?_
        rintro e w9 ⟨rfl, f9⟩
        have F9 := Lib.hid f9
        have G9 := Lib.hid (G8.out.trans' f9 (fun _ _ e => e))
        clear k0 k1 f9
        have k0 := (HBx.out _ G9.out).cell 0
        have k1 := (HBx.out _ G9.out).cell 1
        simp at k0 k1
        go_wp2_with fail
        refine (HPt.out _ (G3.out.trans' G9.out (fun _ _ e => e))).mono ?_
        rintro e w10 ⟨A10, c10, rfl, hs10, f10⟩
        have F10 := Lib.hid (F9.out.trans' f10 (fun _ _ e => e))
        have G10 := Lib.hid (G9.out.trans' f10 (fun _ _ e => e))
        have HW := Lib.hid (refWords_any pl pl A3 A10 p p c3 c10 w10 (HpL.out.since G10.out) hs10 Hp.out.symm Hp.out.symm (by omega) (by omega))
        simp only [decide_true] at HW
        clear k0 k1 f10 hs10
        go_wp2_with fail
        refine HW.out.mono ?_
        rintro e w11 ⟨rfl, f11⟩
        have F11 := Lib.hid (F10.out.trans' f11 (fun _ _ e => e))
        have G11 := Lib.hid (G10.out.trans' f11 (fun _ _ e => e))
        have gx : Fr No w11 (w11.alloc (.cells #[.int .i64 xk, .slice xA xm xc] 24)) := (Fr.refl _ _).alloc _
        have gz : Fr No (w11.alloc (.cells #[.int .i64 xk, .slice xA xm xc] 24)) ((w11.alloc (.cells #[.int .i64 xk, .slice xA xm xc] 24)).alloc (.cells #[.int .i64 yk, .slice yA ym yc] 24)) := (Fr.refl _ _).alloc _
        have HS : Hid (Calls Try.prog 16 #[.slice (some ⟨w11.heap.size, 0, none⟩) 1 1, .slice (some ⟨w11.heap.size + 1, 0, none⟩) 1 1] ((w11.alloc (.cells #[.int .i64 xk, .slice xA xm xc] 24)).alloc (.cells #[.int .i64 yk, .slice yA ym yc] 24)) fun e w' => e = .returned (.bool true) ∧ Fr No ((w11.alloc (.cells #[.int .i64 xk, .slice xA xm xc] 24)).alloc (.cells #[.int .i64 yk, .slice yA ym yc] 24)) w') := Lib.hid (by
          have q1 := (frs_one w11 ⟨xk, xA, xw, xc⟩ (HX.out w11 (G3.out.trans' G11.out (fun _ _ e => e))))
          have q2 := frs_one (w11.alloc (.cells #[.int .i64 xk, .slice xA xm xc] 24)) ⟨yk, yA, yw, yc⟩ (HyY.out _ (F11.out.trans' gx (fun _ _ e => e)))
          simp only [← Hxm.out] at q1
          simp only [← Hym.out] at q2
          rw [World.size_alloc] at q2
          refine (refSame6_any [⟨xk, xA, xw, xc⟩] [⟨yk, yA, yw, yc⟩] _ _ 1 1 1 1 _ (q1.since gz) q2 rfl rfl (by omega) (by omega)).mono ?_
          rintro e w' ⟨⟨b, rfl, hb⟩, hf⟩
          have : b = true := hb.2 (by simp only [List.map_cons, List.map_nil]; rw [← Hff.out]; rfl)
          exact ⟨by rw [this], hf⟩)
        have k0 := (HBx.out _ G11.out).cell 0
        have k1 := (HBx.out _ G11.out).cell 1
        have z0 := (BY.out _ (F11.out.trans' gx (fun _ _ e => e))).cell 0
        have z1 := (BY.out _ (F11.out.trans' gx (fun _ _ e => e))).cell 1
        simp only [List.getElem?_toArray, List.getElem?_cons_zero, List.getElem?_cons_succ] at k0 k1 z0 z1
        have GZ := Lib.hid ((G3.out.trans' G11.out (fun _ _ e => e)).trans' (gx.trans' gz (fun _ _ e => e)) (fun _ _ e => e))
        clear f11 gx gz HW
        go_wp2_with (go_at_call 16; refine HS.out.mono ?_; rintro e w12 ⟨rfl, f12⟩; clear k0 k1 z0 z1)
        go_ret
        exact ⟨rfl, GZ.out.trans' f12 (fun _ _ e => e)⟩
      · have hp0 : p = 0 := by
          rw [Hp.out, Hpl.out]
          unfold putP
          rw [if_neg hall]
          rfl
        subst hp0
        have HE : Hid (∀ W, Calls Try.prog 11 #[.int .i64 ep] W fun e w' => e = .returned (.bool (numOk ep)) ∧ W = w') := Lib.hid (fun W => refNumber_any ep W)
        have HN : Hid (∀ W, Calls Try.prog 11 #[.int .i64 n] W fun e w' => e = .returned (.bool (numOk n)) ∧ W = w') := Lib.hid (fun W => refNumber_any n W)
        have HBx := Lib.hid (fun W (hW : Fr No w3 W) => HB.out W (F3.out.trans' hW (fun _ _ e => e)))
        clear HO3 Hp Hpl b3 HX Hs Hm H64 He Hn Hmc Hxl Hcap Hcap2 F3 HB hm63 hbig hxl2
        obtain ⟨bf, Hbf⟩ : ∃ bf, Hid (bf = frmOk ⟨xk, xw⟩) := ⟨_, Lib.hid rfl⟩
        obtain ⟨be, Hbe⟩ : ∃ be, Hid (be = numOk ep) := ⟨_, Lib.hid rfl⟩
        obtain ⟨bn, Hbn⟩ : ∃ bn, Hid (bn = numOk n) := ⟨_, Lib.hid rfl⟩
        simp only [← Hbf.out, ← Hbe.out, ← Hbn.out] at hall HM HRM HE HN
        rw [← Hb.out] at x0 x1 HBx ⊢
        clear Hbf Hbe Hbn
        cases bf
        case' true => cases be
        case' true.true => cases bn
        case true.true.true => exact absurd ⟨rfl, rfl, rfl⟩ hall
        all_goals
          clear hall
          go_wp2_with fail
          refine (HRM.out _).mono ?_
          rintro e w4 ⟨rfl, f4⟩
          have k0 := (HBx.out w4 f4).cell 0
          have k1 := (HBx.out w4 f4).cell 1
          simp at k0 k1
          have HF4 := Lib.hid f4
          clear x0 x1 f4
          go_wp2_with (first | (go_at_call 11; refine (HE.out _).mono ?_; rintro e w' ⟨rfl, rfl⟩) | (go_at_call 11; refine (HN.out _).mono ?_; rintro e w' ⟨rfl, rfl⟩))
          have Hcell : Hid (∀ W, Fr No w4 W → W.cell? ⟨b, 0, none⟩ = some (.int .i64 xk) ∧ W.cell? ⟨b, 1, none⟩ = some (.slice xA xm xc)) := Lib.hid (fun W hW =>
            ⟨(HBx.out W (HF4.out.trans' hW (fun _ _ e => e))).cell 0, (HBx.out W (HF4.out.trans' hW (fun _ _ e => e))).cell 1⟩)
          go_region_held3 (fun w' => w'.cell? ⟨b, 0, none⟩ = some (.int .i64 xk) ∧ w'.cell? ⟨b, 1, none⟩ = some (.slice xA xm xc)) (first
            | exact Hcell.out _ F6
            | exact Hcell.out _ F5
            | go_keep)
            (first
             | (go_at_call 10
                have _ := F5
                refine (HRM.out _).mono ?_
                rintro e w6 ⟨rfl, f6⟩
                have F6 : Fr No w4 w6 := Fr.trans' (Fr.trans' F5 (by first | exact Fr.refl _ _ | exact (Fr.refl _ _).drew | exact (Fr.refl _ _).drewN _) (fun _ _ e => e)) f6 (fun _ _ e => e))
             | (go_at_call 12
                refine (HM.out _).mono ?_
                rintro e w5 ⟨rfl, f5⟩
                have F5 : Fr No w4 w5 := Fr.trans' (by first | exact Fr.refl _ _ | exact (Fr.refl _ _).drew | exact (Fr.refl _ _).drewN _) f5 (fun _ _ e => e)))
          have HFF := Lib.hid ((G3.out.trans' HF4.out (fun _ _ e => e)).trans' F6 (fun _ _ e => e))
          clear f5 f6 F5 F6 k0 k1 Hcell HM HRM HE HN
          go_wp2
          go_ret
          exact ⟨rfl, HFF.out⟩
end Go.Proofs.Ytinfeollcmfjeaa
