/- The law 'CatWords', walked. -/
import Derived.Test.YtbemfomiiikpoaaGreatPtc12
import Derived.Test.YtbemfomiiikpoaaGreatGeq12
import Derived.Test.YtbemfomiiikpoaaGreatRmy12
import Derived.Test.YtbemfomiiikpoaaGreatRsm12
import Derived.Test.YtbemfomiiikpoaaGreatFit12
import Derived.Deep.RegionHeld3
namespace Go.Proofs.YtbemfomiiikpoaaGreat
open Go.RowKit

theorem wr_new12 (w : World) : Wr (w.alloc (.cells #[.slice none 0 0] 31)) w.heap.size none [] :=
  ⟨none, 0, Bk.made w 31 #[.slice none 0 0], World.ownsRow_nil _ _ _ _, rfl⟩
theorem low_of_full {w W : World} {p : Nat} {c : Cls} (hf : c.Full w) (h : Fr No w W) (hp : w.heap.size ≤ p) (hok : c.p.ok = true) : LowC W p c := by
  obtain ⟨h1, h2, h3, h4, h5⟩ := ok_parts12 hf hok
  have hb := h.below0
  exact ⟨(hf.ok.steps.sl.below hb).more hp, (hf.ok.comps.sl.below hb).more hp,
    fun s hs => ⟨⟨((hf.ok.steps.all s hs).code.below hb).more hp, ((hf.ok.steps.all s hs).foot.below hb).more hp⟩, h4 s hs⟩,
    fun s hs => ⟨⟨((hf.ok.comps.all s hs).code.below hb).more hp, ((hf.ok.comps.all s hs).foot.below hb).more hp⟩, h5 s hs⟩, hf.args, h2, by omega, h1⟩

set_option maxRecDepth 100000 in
set_option maxHeartbeats 8000000 in
theorem catWords_any (x : Ctl) (w : World) (hf : x.Full w) : Calls Tryz.prog 3 #[x.agg] w (Has w true) := by
  have Hal := Lib.hid (fun (w1 : World) => alive12 w1)
  have HM := Lib.hid (fun (W : World) (h : Fr No w W) => refMay12_any x W (hf.ok.since h))
  have HPut := Lib.hid (fun (p : Nat) (W : World) (h : Fr No w W) (hp : w.heap.size ≤ p) (hw : WA p [] W) (hok : x.p.ok = true) =>
    put12_any p [] x W hw ((hf.ok.sl.below h.below0).more hp) (fun c hc => low_of_full (hf.cls c hc) h hp ((ctl_ok hok).2 c hc)) (ctl_ok hok).1.2 hf.br
      (fun c hc => by
        have hk := ctl_fit hf hok
        have hm : c.p ∈ x.p.cs := List.mem_map.2 ⟨c, hc, rfl⟩
        exact wordsC_len (hk.steps _ hm) (hk.s1 _ hm) (hk.s2 _ hm)) (by simp))
  have HItm := Lib.hid (fun (W : World) (h : Fr No w W) (hok : x.p.ok = true) => refItems12_any x W (hf.ok.since h) (ctl_ok hok).1.2 (ctl_small hf hok))
  have HFit := Lib.hid (fun (hok : x.p.ok = true) => ctl_fit hf hok)
  have HSm := Lib.hid (fun (y : Ctl) (W : World) (hok : x.p.ok = true) (h : Fr No w W) (hy : Clss W y.cA y.cls) => refSame12_any x y W (hf.ok.since h) hy (nice_of_ok hok).cls (nice_of_ok hok).cap)
  unfold Ctl.agg at HM HPut HItm HSm ⊢
  obtain ⟨Z, hZ⟩ : ∃ Z, Z = x.arr := ⟨_, rfl⟩
  rw [← hZ] at HM HPut HItm HSm ⊢
  rw [Ctl.arr_eq] at hZ
  have bZ := Bk.made w 26 Z
  have f0 : Fr No w (w.alloc (.cells Z 26)) := (Fr.refl _ _).alloc _
  have HB0 := Lib.hid bZ
  have HLd := Lib.hid (fun V (h : Bk V w.heap.size 26 Z) => ld_cat hZ h)
  have HF0 := Lib.hid f0
  generalize x.p = z at *
  clear hf hZ bZ f0
  go_enter Tryz.func3, Tryz.ntmps3
  go_wp2_with fail
  refine (Hal.out _).mono ?_
  rintro e w1 ⟨rfl, hf1⟩
  have B1 := Lib.hid (HB0.out.fr hf1 (fun e => e))
  have F1 := Lib.hid (HF0.out.trans' hf1 (fun _ _ e => e))
  have HL1 := Lib.hid (HLd.out _ B1.out)
  have HM1 := Lib.hid (HM.out _ F1.out)
  clear hf1 HB0 HF0
  go_wp2_with (first
    | ((with_reducible refine wpl_ld ?_ ?_ HL1.out ?_); (· rfl); (· rfl); simp only [Act.put, List.setIfInBounds_toArray, List.set_cons_zero, List.set_cons_succ]))
  refine (HM1.out).mono ?_
  rintro e w2 ⟨rfl, hf2⟩
  have hz2 := F1.out.trans' hf2 (fun _ _ e => e)
  have hb2 := B1.out.fr hf2 (fun e => e)
  obtain ⟨ok, hok⟩ : ∃ b, z.ok = b := ⟨_, rfl⟩
  rw [hok]
  clear hf2 HM1 HL1 B1 F1 HM
  cases ok
  · go_wp2
    go_ret
    exact ⟨rfl, hz2⟩
  have f3 : Fr No w2 (w2.alloc (.cells #[.slice none 0 0] 31)) := (Fr.refl _ _).alloc _
  have C3 := Lib.hid (HPut.out w2.heap.size _ (hz2.trans' f3 (fun _ _ e => e)) hz2.size ⟨none, wr_new12 w2, fun k hk => by cases hk⟩ hok)
  have HB3 := Lib.hid (hb2.fr f3 (fun e => e))
  have HL3 := Lib.hid (HLd.out _ (hb2.fr f3 (fun e => e)))
  have HZ3 := Lib.hid (hz2.trans' f3 (fun _ _ e => e))
  have hfit := HFit.out hok
  have Hwl := Lib.hid (wordsQ_len hfit)
  have Hlt := Lib.hid (wordsQ_lt hfit)
  have Hil := Lib.hid (itQ_len hfit)
  have Hif := Lib.hid (itQ_fit hfit)
  have hback := ctR_back hok []
  rw [List.append_nil] at hback
  have Hback := Lib.hid hback
  have HIt := Lib.hid (fun W h => HItm.out W h hok)
  have HSame := Lib.hid (fun y W h hy => HSm.out y W hok h hy)
  rw [List.nil_append] at C3
  have hzl2 := hz2.size
  clear hb2 f3 HPut HItm HSm HFit hfit hback Hal hz2
  go_wp2_with (first
    | ((with_reducible refine wpl_ld ?_ ?_ HL3.out ?_); (· rfl); (· rfl); simp only [Act.put, List.setIfInBounds_toArray, List.set_cons_zero, List.set_cons_succ]))
  refine (C3.out).mono ?_
  rintro e w3 ⟨rfl, ⟨g3, hwr3, hg3⟩, hk3⟩
  have hz3 : Fr No w w3 := Fr.ofBelow (HZ3.out.below0.trans (hk3.1.mono hzl2)) No
  have hb3 := hk3.2.1 _ _ _ (by decide) (by decide) HB3.out
  have hp3 := hwr3.lt.1
  obtain ⟨ws, hws⟩ : ∃ ws, Hid (ws = wordsQ z) := ⟨_, Lib.hid rfl⟩
  rw [← hws.out] at hwr3 Hwl Hlt Hback
  have CD := Lib.hid (done_any w2.heap.size g3 ws w3 hwr3 (by have := Hwl.out; omega))
  have Hwr3 := Lib.hid hwr3
  have HZ3 := Lib.hid hz3
  have HB3 := Lib.hid hb3
  clear hk3 hwr3 hz3 hb3 C3
  go_wp2_with fail
  refine (CD.out).mono ?_
  rintro e w4 ⟨A4, c4, rfl, hown4, hf4⟩
  have hsl4 := Sl.ofOwn hown4
  have hnil4 : A4 = none → ws.length = 0 ∧ c4 = 0 := by
    obtain ⟨A', c', k1, _, _, k2⟩ := own_shape hown4
    injection k1 with k1 k3 k4
    subst k1 k4
    exact k2
  have CN := Lib.hid (qnew_any ws A4 ws.length c4 w4 hsl4 rfl hnil4 (by have := Hwl.out; omega) Hlt.out)
  have HZ4 := Lib.hid (HZ3.out.then0 hf4 (fun _ h => h.elim))
  have Hwr4 := Lib.hid (Hwr3.out.fr hf4 (fun _ _ e => e))
  have HB4 := Lib.hid (HB3.out.fr hf4 (fun e => e))
  have hp4 := Hwr4.out.lt.1
  clear hown4 hsl4 hnil4 hf4 CD HZ3 Hwr3 HB3 Hlt hg3
  go_wp2_with fail
  refine (CN.out).mono ?_
  rintro e w5 ⟨r, rfl, hr5, hrd5, hf5⟩
  have Hnew := Lib.hid (Hwr4.out.not_of hr5)
  have HZ5 := Lib.hid (HZ4.out.then0 hf5 (fun _ h => h.elim))
  have Hwr5 := Lib.hid (Hwr4.out.fr hf5 (fun _ _ e => e))
  have HB5 := Lib.hid (HB4.out.fr hf5 (fun e => e))
  have CG := Lib.hid (get12_any r _ w5 hrd5 (fun k hk => hk))
  have hs4 := HZ4.out.size
  have hrl := hrd5.lt
  clear hrd5 hf5 CN HZ4 Hwr4 HB4
  go_wp2_with fail
  refine (CG.out).mono ?_
  rintro e w6 ⟨y, rfl, hyp, hyo, -, hrd6, hf6⟩
  have HZ6 := Lib.hid (HZ5.out.trans' hf6 (fun i hi e => by have e : i = r := e; omega))
  have Hwr6 := Lib.hid (Hwr5.out.fr hf6 (fun i ho e => Hnew.out (by have e : i = r := e; rw [← e]; exact ho)))
  have HB6 := Lib.hid (HB5.out.fr hf6 (fun e => by have e : w.heap.size = r := e; have := HB5.out.lt; omega))
  obtain ⟨y0, hy0, hy1, hy2⟩ := Hback.out
  rw [hy0] at hyp hrd6 ⊢
  simp only [Option.map_some, Option.getD_some, Option.isSome_some] at hyp hrd6 ⊢
  have Hsame : Hid (z.same y.p = true) := Lib.hid (by rw [hyp]; exact PCt.same_of hy1 hy2)
  have HYo := Lib.hid (fun (V : World) (h : Fr No w6 V) => hyo V (h.weak (fun _ _ e => e.elim)))
  obtain ⟨Y, hY⟩ : ∃ Y, Y = y.arr := ⟨_, rfl⟩
  have hYA := hY.trans (Ctl.arr_eq y)
  have bY0 := Bk.made w6 26 (brA (.slice none 0 0) fun _ => 0)
  have hst7 := Lib.hid (st_cat (v' := .slice y.cA y.cls.length y.cc) (b' := y.b) rfl hYA rfl bY0)
  obtain ⟨P, hP⟩ : ∃ P, Hid (P = w.heap.size) := ⟨_, Lib.hid rfl⟩
  obtain ⟨Q, hQ⟩ : ∃ Q, Hid (Q = w6.heap.size) := ⟨_, Lib.hid rfl⟩
  obtain ⟨W7, hW7⟩ : ∃ V, Hid (V = (w6.alloc (.cells (brA (.slice none 0 0) fun _ => 0) 26)).setRow w6.heap.size Y) := ⟨_, Lib.hid rfl⟩
  rw [← hW7.out] at hst7
  have hf7 : Fr No w6 W7 := by rw [hW7.out]; exact fr_row12 ((Fr.refl _ _).alloc _) (.inr (Nat.le_refl _)) _
  have hB7 : Bk W7 w.heap.size 26 Z := HB6.out.fr hf7 (fun e => e)
  have hQ7 : Bk W7 Q 26 Y := by rw [hQ.out, hW7.out]; exact bk_row12 bY0 _
  have HS0 := Lib.hid (fun (V : World) (h : Fr No W7 V) => And.intro (show LdO V 26 ⟨P, 0, none⟩ (.agg Z) by rw [hP.out]; exact HLd.out _ (hB7.fr h (fun e => e))) (show LdO V 26 ⟨Q, 0, none⟩ (.agg Y) from ld_cat hYA (hQ7.fr h (fun e => e))))
  have HZ7 := Lib.hid (HZ6.out.then0 hf7 (fun _ h => h.elim))
  have HDn := Lib.hid (fun (V : World) (h : Fr No W7 V) => done_any w2.heap.size g3 ws V ((Hwr6.out.fr hf7 (fun _ _ e => e)).fr h (fun _ _ e => e)) (by have := Hwl.out; omega))
  have HIt7 := Lib.hid (fun (V : World) (h : Fr No W7 V) => HIt.out V (HZ7.out.then0 h (fun _ h => h.elim)))
  have HEnd := Lib.hid (fun (V : World) (h : Fr No W7 V) => qend_any r (some []) V ((hrd6.fr hf7 (fun e => e) (fun _ e => e.elim)).fr h (fun e => e) (fun _ e => e.elim)))
  have HSm7 := Lib.hid (fun (V : World) (h : Fr No W7 V) => HSame.out y V (HZ7.out.then0 h (fun _ h => h.elim)) (HYo.out V (hf7.then0 h (fun _ h => h.elim))))
  rw [Hsame.out] at HSm7
  try unfold Ctl.agg at HSm7
  try unfold Ctl.agg
  rw [← hY] at HSm7 ⊢
  have hE1 : decide ((some ([] : List Nat)) = some []) = true := by simp
  rw [hE1] at HEnd
  have HWd := Lib.hid (fun (V : World) (A' : Option Addr) (c' : Nat) (h : Sl V V.heap.size A' ((itQ z).flatMap It.cells)) => words11_any (itQ z) A' (itQ z).length c' V h rfl (by have := Hil.out; omega) (fun t ht => Hif.out t ht))
  rw [itQ_words, ← hws.out] at HWd
  have HRw := Lib.hid (fun (V : World) (A1 A2 : Option Addr) (c1 c2 : Nat) (h1 : Sl V V.heap.size A1 (u64s ws)) (h2 : Sl V V.heap.size A2 (u64s ws)) => refWords_any ws ws A1 A2 ws.length ws.length c1 c2 V h1 h2 rfl rfl (by have := Hwl.out; omega) (by have := Hwl.out; omega))
  have hE2 : decide (ws = ws) = true := by simp
  rw [hE2] at HRw
  unfold brA at hst7
  clear hE1 hE2 hyo hyp hrd6 hf6 HB6 Hwr6 HYo hB7 hQ7 HZ6 HSame HIt Hif HB5 Hwr5 HZ5 Hnew CG hy0 hy1 hy2 hY hYA bY0 hf7 Hback
  go_wp2_with (first
    | ((with_reducible refine wpl_st ?_ ?_ ?_ hst7.out ?_); (· rfl); (· rfl); (· rfl); simp only [Act.put]))
  rw [← hQ.out, ← hP.out]
  refine wp_region_held_drew (S := fun W => LdO W 26 ⟨P, 0, none⟩ (.agg Z) ∧ LdO W 26 ⟨Q, 0, none⟩ (.agg Y)) (by kernel_rfl) (HS0.out _ ((Fr.refl No W7).drew)) (fun hHeld => ?_)
  refine any_take 22 (.agg Z) (i := 1) rfl rfl (by kernel_rfl) (by kernel_rfl) (by kernel_rfl) (fun _ _ _ h => h) (by rfl) (by intro w hSw; exact exec_ld rfl hSw.1) (by assumption) ?_
  simp only [Act.put, List.setIfInBounds_toArray, List.set_cons_zero, List.set_cons_succ]
  refine wpAnyH_ready (rs := [0]) (by kernel_rfl) (by simp) ?_
  refine AllReadyH.cons rfl (fun K' hK => ?_) AllReadyH.nil
  go_simp
  go_at_call 9
  refine (HDn.out _ ((Fr.refl No W7).drew)).mono ?_
  rintro e' wD ⟨AD, cD, rfl, ownD, fD⟩
  have FD := Lib.hid (((Fr.refl No W7).drew).then0 fD (fun _ h => h.elim))
  have slD := Lib.hid (Sl.ofOwn ownD)
  clear ownD
  dsimp only
  refine hK.out _ _ (HS0.out _ FD.out) (fun hHeld => ?_)
  clear hK
  try simp only [Act.put, List.setIfInBounds_toArray, List.set_cons_zero, List.set_cons_succ]
  refine wpAnyH_ready (rs := [2]) (by kernel_rfl) (by simp) ?_
  refine AllReadyH.cons rfl (fun K' hK => ?_) AllReadyH.nil
  go_simp
  go_at_call 13
  refine (HIt7.out _ FD.out).mono ?_
  rintro e' wI ⟨AI, cI, rfl, slI, -, fI⟩
  have FI := Lib.hid (FD.out.then0 fI (fun _ h => h.elim))
  have slD2 := Lib.hid (slD.out.since fI)
  dsimp only
  refine hK.out _ _ (HS0.out _ FI.out) (fun hHeld => ?_)
  clear hK
  try simp only [Act.put, List.setIfInBounds_toArray, List.set_cons_zero, List.set_cons_succ]
  refine wpAnyH_ready (rs := [3]) (by kernel_rfl) (by simp) ?_
  refine AllReadyH.cons rfl (fun K' hK => ?_) AllReadyH.nil
  go_simp
  go_at_call 12
  refine (HWd.out _ _ _ slI).mono ?_
  rintro e' wW ⟨AW, cW, rfl, ownW, fW⟩
  have FW := Lib.hid (FI.out.then0 fW (fun _ h => h.elim))
  have slD3 := Lib.hid (slD2.out.since fW)
  have slW := Lib.hid (Sl.ofOwn ownW)
  clear ownW
  dsimp only
  refine hK.out _ _ (HS0.out _ FW.out) (fun hHeld => ?_)
  clear hK
  try simp only [Act.put, List.setIfInBounds_toArray, List.set_cons_zero, List.set_cons_succ]
  refine wpAnyH_ready (rs := [4]) (by kernel_rfl) (by simp) ?_
  refine AllReadyH.cons rfl (fun K' hK => ?_) AllReadyH.nil
  go_simp
  go_at_call 11
  refine (HRw.out _ _ _ _ _ slD3.out slW.out).mono ?_
  rintro e' wX ⟨rfl, fX⟩
  have FX := Lib.hid (FW.out.then0 fX (fun _ h => h.elim))
  dsimp only
  refine hK.out _ _ (HS0.out _ FX.out) (fun hHeld => ?_)
  clear hK
  try simp only [Act.put, List.setIfInBounds_toArray, List.set_cons_zero, List.set_cons_succ]
  refine any_take 26 (.bool true) (i := 5) rfl rfl (by kernel_rfl) (by kernel_rfl) (by kernel_rfl) (fun _ _ _ h => h) (by rfl) (by intro w hSw; (try dsimp only at hSw); go_simp; try with_reducible rfl) (by assumption) ?_
  simp only [Act.put, List.setIfInBounds_toArray, List.set_cons_zero, List.set_cons_succ]
  refine any_take 27 (.bool true) (i := 6) rfl rfl (by kernel_rfl) (by kernel_rfl) (by kernel_rfl) (fun _ _ _ h => h) (by rfl) (by intro w hSw; (try dsimp only at hSw); go_simp; try with_reducible rfl) (by assumption) ?_
  simp only [Act.put, List.setIfInBounds_toArray, List.set_cons_zero, List.set_cons_succ]
  refine any_take 28 (.bool true) (i := 7) rfl rfl (by kernel_rfl) (by kernel_rfl) (by kernel_rfl) (fun _ _ _ h => h) (by rfl) (by intro w hSw; (try dsimp only at hSw); go_simp; try with_reducible rfl) (by assumption) ?_
  simp only [Act.put, List.setIfInBounds_toArray, List.set_cons_zero, List.set_cons_succ]
  refine any_take 29 (.bool true) (i := 8) rfl rfl (by kernel_rfl) (by kernel_rfl) (by kernel_rfl) (fun _ _ _ h => h) (by rfl) (by intro w hSw; (try dsimp only at hSw); go_simp; try with_reducible rfl) (by assumption) ?_
  simp only [Act.put, List.setIfInBounds_toArray, List.set_cons_zero, List.set_cons_succ]
  refine any_take 30 (.pointer (some ⟨r, 0, none⟩)) (i := 9) rfl rfl (by kernel_rfl) (by kernel_rfl) (by kernel_rfl) (fun _ _ _ h => h) (by rfl) (by intro w hSw; (try dsimp only at hSw); go_simp; try with_reducible rfl) (by assumption) ?_
  simp only [Act.put, List.setIfInBounds_toArray, List.set_cons_zero, List.set_cons_succ]
  refine wpAnyH_ready (rs := [10]) (by kernel_rfl) (by simp) ?_
  refine AllReadyH.cons rfl (fun K' hK => ?_) AllReadyH.nil
  go_simp
  go_at_call 14
  refine (HEnd.out _ FX.out).mono ?_
  rintro e' wE ⟨rfl, fE⟩
  have FE := Lib.hid (FX.out.then0 fE (fun _ h => h.elim))
  dsimp only
  refine hK.out _ _ (HS0.out _ FE.out) (fun hHeld => ?_)
  clear hK
  try simp only [Act.put, List.setIfInBounds_toArray, List.set_cons_zero, List.set_cons_succ]
  refine any_take 32 (.bool true) (i := 11) rfl rfl (by kernel_rfl) (by kernel_rfl) (by kernel_rfl) (fun _ _ _ h => h) (by rfl) (by intro w hSw; (try dsimp only at hSw); go_simp; try with_reducible rfl) (by assumption) ?_
  simp only [Act.put, List.setIfInBounds_toArray, List.set_cons_zero, List.set_cons_succ]
  refine any_take 33 (.bool true) (i := 12) rfl rfl (by kernel_rfl) (by kernel_rfl) (by kernel_rfl) (fun _ _ _ h => h) (by rfl) (by intro w hSw; (try dsimp only at hSw); go_simp; try with_reducible rfl) (by assumption) ?_
  simp only [Act.put, List.setIfInBounds_toArray, List.set_cons_zero, List.set_cons_succ]
  refine any_take 34 (.agg Z) (i := 13) rfl rfl (by kernel_rfl) (by kernel_rfl) (by kernel_rfl) (fun _ _ _ h => h) (by rfl) (by intro w hSw; exact exec_ld rfl hSw.1) (by assumption) ?_
  simp only [Act.put, List.setIfInBounds_toArray, List.set_cons_zero, List.set_cons_succ]
  refine any_take 35 (.agg Y) (i := 14) rfl rfl (by kernel_rfl) (by kernel_rfl) (by kernel_rfl) (fun _ _ _ h => h) (by rfl) (by intro w hSw; exact exec_ld rfl hSw.2) (by assumption) ?_
  simp only [Act.put, List.setIfInBounds_toArray, List.set_cons_zero, List.set_cons_succ]
  refine wpAnyH_ready (rs := [15]) (by kernel_rfl) (by simp) ?_
  refine AllReadyH.cons rfl (fun K' hK => ?_) AllReadyH.nil
  go_simp
  go_at_call 15
  refine (HSm7.out _ FE.out).mono ?_
  rintro e' wS ⟨rfl, fS⟩
  have FS := Lib.hid (FE.out.then0 fS (fun _ h => h.elim))
  dsimp only
  refine hK.out _ _ (HS0.out _ FS.out) (fun hHeld => ?_)
  clear hK
  try simp only [Act.put, List.setIfInBounds_toArray, List.set_cons_zero, List.set_cons_succ]
  refine any_take 37 (.bool true) (i := 16) rfl rfl (by kernel_rfl) (by kernel_rfl) (by kernel_rfl) (fun _ _ _ h => h) (by rfl) (by intro w hSw; (try dsimp only at hSw); go_simp; try with_reducible rfl) (by assumption) ?_
  simp only [Act.put, List.setIfInBounds_toArray, List.set_cons_zero, List.set_cons_succ]
  refine any_take 2 (.bool true) (i := 17) rfl rfl (by kernel_rfl) (by kernel_rfl) (by kernel_rfl) (fun _ _ _ h => h) (by rfl) (by intro w hSw; (try dsimp only at hSw); go_simp; try with_reducible rfl) (by assumption) ?_
  simp only [Act.put, List.setIfInBounds_toArray, List.set_cons_zero, List.set_cons_succ]
  refine wpAnyH_done (by kernel_rfl) ?_ _
  clear hHeld
  go_wp2
  go_ret
  exact ⟨rfl, HZ7.out.then0 FS.out (fun _ h => h.elim)⟩
end Go.Proofs.YtbemfomiiikpoaaGreat
