/- The law 'ClassWords', walked. -/
import Derived.Test.YtnlmhcfkipkegaaGreatPut11
import Derived.Test.YtnlmhcfkipkegaaGreatGet11
import Derived.Test.YtnlmhcfkipkegaaGreatEqf11
import Derived.Test.YtnlmhcfkipkegaaGreatAlv11
import Derived.Test.YtnlmhcfkipkegaaGreatRmy11
import Derived.Test.YtnlmhcfkipkegaaGreatRead11
import Derived.Deep.RegionHeld3
namespace Go.Proofs.YtnlmhcfkipkegaaGreat
open Go.RowKit

theorem pc_same_refl (a : PC) : a.same a = true := by simp [PC.same]
theorem wr_new9 (w : World) : Wr (w.alloc (.cells #[.slice none 0 0] 29)) w.heap.size none [] :=
  ⟨none, 0, Bk.made w 29 #[.slice none 0 0], World.ownsRow_nil _ _ _ _, rfl⟩
theorem zip_get {l m : List Stp} (h : m.length = l.length) {s : Stp} (hs : s ∈ l) : ∃ u, (s, u) ∈ l.zip m := by
  obtain ⟨i, hi, rfl⟩ := List.getElem_of_mem hs
  have h2 : i < (l.zip m).length := by rw [List.length_zip]; omega
  exact ⟨m[i], by have := List.getElem_mem h2; rwa [List.getElem_zip] at this⟩
theorem zip_get2 {l m : List Stp} (h : m.length = l.length) {s : Stp} (hs : s ∈ m) : ∃ u, (u, s) ∈ l.zip m := by
  obtain ⟨i, hi, rfl⟩ := List.getElem_of_mem hs
  have h2 : i < (l.zip m).length := by rw [List.length_zip]; omega
  exact ⟨l[i], by have := List.getElem_mem h2; rwa [List.getElem_zip] at this⟩
/-- What is known of a class that may be. -/
theorem ok_parts {c : Cls} {w : World} (hf : c.Full w) (h : c.p.ok = true) : c.name.size ≤ 64 ∧ c.steps.length ≤ 4 ∧ c.comps.length = c.steps.length ∧ (∀ s ∈ c.steps, FitS s.p) ∧ (∀ s ∈ c.comps, FitS s.p) := by
  unfold PC.ok Cls.p at h
  simp only [Bool.and_eq_true, decide_eq_true_eq, List.length_map] at h
  obtain ⟨h1, -, h3, h4, h5⟩ := h
  have hall : ∀ q ∈ c.steps.zip c.comps, SmallP q.1.p ∧ SmallP q.2.p := fun q hq => by
    have h6 : (q.1.p, q.2.p) ∈ (c.steps.map Stp.p).zip (c.comps.map Stp.p) := by
      rw [List.zip_map]
      exact List.mem_map.2 ⟨q, hq, rfl⟩
    rw [List.all_eq_true] at h5
    exact pair_small (h5 _ h6)
  refine ⟨by omega, by omega, h4, fun s hs => ?_, fun s hs => ?_⟩
  · obtain ⟨u, hu⟩ := zip_get h4 hs
    have h7 := (hall _ hu).1
    exact ⟨(hf.steps s hs).fit.ci, (hf.steps s hs).fit.fi, h7.code, h7.foot⟩
  · obtain ⟨u, hu⟩ := zip_get2 h4 hs
    have h7 := (hall _ hu).2
    exact ⟨(hf.comps s hs).fit.ci, (hf.comps s hs).fit.fi, h7.code, h7.foot⟩

set_option maxRecDepth 100000 in
set_option maxHeartbeats 8000000 in
theorem classWords_any (c : Cls) (w : World) (hf : c.Full w) : Calls Tryz.prog 3 #[c.agg] w (Has w true) := by
  have HO := Lib.hid (fun (W : World) (h : Fr No w W) => hf.ok.since h)
  have HP := Lib.hid (fun h => ok_parts hf h)
  have HM := Lib.hid (fun (W : World) (h : Fr No w W) => refMay11_any c W (hf.ok.since h))
  have Hal := Lib.hid (fun (w1 : World) => alive11 w1)
  have Ha := Lib.hid hf.args
  have HPut := Lib.hid (fun (p : Nat) (W : World) (h : Fr No w W) (hp : w.heap.size ≤ p) (hw : WA p [] W) (hok : c.p.ok = true) =>
    put11_any p [] c W hw ((hf.ok.steps.sl.below h.below0).more hp) ((hf.ok.comps.sl.below h.below0).more hp)
      (fun s hs => ⟨⟨((hf.ok.steps.all s hs).code.below h.below0).more hp, ((hf.ok.steps.all s hs).foot.below h.below0).more hp⟩, (ok_parts hf hok).2.2.2.1 s hs⟩)
      (fun s hs => ⟨⟨((hf.ok.comps.all s hs).code.below h.below0).more hp, ((hf.ok.comps.all s hs).foot.below h.below0).more hp⟩, (ok_parts hf hok).2.2.2.2 s hs⟩)
      hf.args (ok_parts hf hok).2.1 (by have := (ok_parts hf hok).2.1; have := (ok_parts hf hok).2.2.1; omega) (ok_parts hf hok).1 (by simp))
  have HItm := Lib.hid (fun (W : World) (h : Fr No w W) (hok : c.p.ok = true) => refItems11_any c W (hf.ok.since h) (ok_parts hf hok).2.1 (ok_parts hf hok).2.2.1 (fun s hs => ⟨((ok_parts hf hok).2.2.2.1 s hs).code, ((ok_parts hf hok).2.2.2.1 s hs).foot⟩) (fun s hs => ⟨((ok_parts hf hok).2.2.2.2 s hs).code, ((ok_parts hf hok).2.2.2.2 s hs).foot⟩))
  have Hft := Lib.hid (fun (hok : c.p.ok = true) => And.intro (fun s (hs : s ∈ c.p.steps) => show FitS s by
    obtain ⟨t, ht, rfl⟩ := List.mem_map.1 hs
    exact (ok_parts hf hok).2.2.2.1 t ht) (fun s (hs : s ∈ c.p.comps) => show FitS s by
    obtain ⟨t, ht, rfl⟩ := List.mem_map.1 hs
    exact (ok_parts hf hok).2.2.2.2 t ht))
  have HSm := Lib.hid (fun (d : Cls) (W : World) (hok : c.p.ok = true) (h : Fr No w W) (hd : d.Ok W) => And.intro (refSame11_any c d W (hf.ok.since h) hd ⟨by have := (ok_parts hf hok).2.1; omega, by have := (ok_parts hf hok).2.1; have := (ok_parts hf hok).2.2.1; omega, fun s hs => ⟨by have h8 : s.code.length ≤ 8 := ((ok_parts hf hok).2.2.2.1 s hs).code; omega, by have h8 : s.foot.length ≤ 4 := ((ok_parts hf hok).2.2.2.1 s hs).foot; omega⟩, fun s hs => ⟨by have h8 : s.code.length ≤ 8 := ((ok_parts hf hok).2.2.2.2 s hs).code; omega, by have h8 : s.foot.length ≤ 4 := ((ok_parts hf hok).2.2.2.2 s hs).foot; omega⟩⟩)
    (same11_any c d W (hf.ok.since h) hd ⟨by have := (ok_parts hf hok).2.1; omega, by have := (ok_parts hf hok).2.1; have := (ok_parts hf hok).2.2.1; omega, fun s hs => ⟨by have h8 : s.code.length ≤ 8 := ((ok_parts hf hok).2.2.2.1 s hs).code; omega, by have h8 : s.foot.length ≤ 4 := ((ok_parts hf hok).2.2.2.1 s hs).foot; omega⟩, fun s hs => ⟨by have h8 : s.code.length ≤ 8 := ((ok_parts hf hok).2.2.2.2 s hs).code; omega, by have h8 : s.foot.length ≤ 4 := ((ok_parts hf hok).2.2.2.2 s hs).foot; omega⟩⟩))
  have Hn4 := Lib.hid (fun (hok : c.p.ok = true) => (ok_parts hf hok).2.1)
  have HwO : Hid (c.p.ok = true → wordsC c.p = wordsC c.p) := Lib.hid (fun _ => rfl)
  obtain ⟨z, hz⟩ : ∃ z, Hid (z = c.p) := ⟨_, Lib.hid rfl⟩
  have Hzn : Hid (z.name = c.name ∧ z.args = c.args ∧ z.steps.length = c.steps.length) := Lib.hid (by rw [hz.out]; exact ⟨rfl, rfl, by simp [Cls.p]⟩)
  rw [← hz.out] at HP HM HPut HItm Hft HSm Hn4
  have Hnm := Lib.hid (fun h => (HP.out h).1)
  clear hf HwO HP
  obtain ⟨nm, a, A, ss, sc, U, us, uc, res⟩ := c
  unfold Cls.agg at HM HPut HItm HSm ⊢
  simp only at HM HPut HItm HSm Hzn Ha Hnm Hn4 ⊢
  obtain ⟨n, hn⟩ : ∃ n, Hid (n = ss.length) := ⟨_, Lib.hid rfl⟩
  obtain ⟨m, hm⟩ : ∃ m, Hid (m = us.length) := ⟨_, Lib.hid rfl⟩
  rw [← hn.out, ← hm.out] at HM HPut HItm HSm ⊢
  have f0 : Fr No w (w.alloc (.cells #[.string nm, .int .i64 a, .slice A n sc, .slice U m uc, .bool res] 24)) := (Fr.refl _ _).alloc _
  have HB0 := Lib.hid (Bk.made w 24 #[.string nm, .int .i64 a, .slice A n sc, .slice U m uc, .bool res])
  go_enter Tryz.func3, Tryz.ntmps3
  go_wp2_with fail
  refine (Hal.out _).mono ?_
  rintro e w1 ⟨rfl, hf1⟩
  have hz1 := f0.trans' hf1 (fun _ _ e => e)
  have hb1 := HB0.out.fr hf1 (fun e => e)
  have k0 := hb1.cell 0
  have k1 := hb1.cell 1
  have k2 := hb1.cell 2
  have k3 := hb1.cell 3
  have k4 := hb1.cell 4
  have l1 := hb1.lt
  simp at k0 k1 k2 k3 k4
  have HB1 := Lib.hid hb1
  clear hf1 f0 HB0 hb1
  go_wp2_with fail
  refine (HM.out _ hz1).mono ?_
  rintro e w2 ⟨rfl, hf2⟩
  have hz2 := hz1.trans' hf2 (fun _ _ e => e)
  have hb2 := HB1.out.fr hf2 (fun e => e)
  have HB2 := Lib.hid hb2
  obtain ⟨ok, hok⟩ : ∃ b, z.ok = b := ⟨_, rfl⟩
  rw [hok]
  clear k0 k1 k2 k3 k4 HB1 hf2 hz1 HM
  cases ok
  · go_wp2
    go_ret
    exact ⟨rfl, hz2⟩
  have f3 : Fr No w2 (w2.alloc (.cells #[.slice none 0 0] 29)) := (Fr.refl _ _).alloc _
  have C3 := Lib.hid (HPut.out w2.heap.size _ (hz2.trans' f3 (fun _ _ e => e)) hz2.size ⟨none, wr_new9 w2, fun k hk => by cases hk⟩ hok)
  have hb3 := hb2.fr f3 (fun e => e)
  have HB3 := Lib.hid hb3
  have k0 := hb2.cell 0
  have k1 := hb2.cell 1
  have k2 := hb2.cell 2
  have k3 := hb2.cell 3
  have k4 := hb2.cell 4
  have l2 := hb2.lt
  simp at k0 k1 k2 k3 k4
  have HZ3 := Lib.hid (hz2.trans' f3 (fun _ _ e => e))
  have Hwl := Lib.hid (wordsC_len (c := z) (by rw [Hzn.out.2.2]; exact Hn4.out hok) (Hft.out hok).1 (Hft.out hok).2)
  have Hlt := Lib.hid (wordsC_lt (c := z) (by rw [Hzn.out.2.1]; exact Ha.out) (by rw [Hzn.out.2.2]; exact Hn4.out hok) (Hft.out hok).1 (Hft.out hok).2)
  have Hil := Lib.hid (itC_len (c := z) (by rw [Hzn.out.2.2]; exact Hn4.out hok) (Hft.out hok).1 (Hft.out hok).2)
  have Hif := Lib.hid (itC_fit (c := z) (by rw [Hzn.out.1]; exact Hnm.out hok) (by rw [Hzn.out.2.1]; exact Ha.out) (by rw [Hzn.out.2.2]; exact Hn4.out hok) (Hft.out hok).1 (Hft.out hok).2)
  have hback := clR_back hok []
  rw [List.append_nil] at hback
  have Hback := Lib.hid hback
  have HIt := Lib.hid (fun W h => HItm.out W h hok)
  have HSame := Lib.hid (fun d W h hd => HSm.out d W hok h hd)
  rw [List.nil_append] at C3
  have hzl2 := hz2.size
  clear hb2 hb3 f3 HPut HItm HSm Hft Hn4 Hnm Ha Hzn hback Hal HB2
  go_wp2_with fail
  refine (C3.out).mono ?_
  rintro e w3 ⟨rfl, ⟨g3, hwr3, hg3⟩, hk3⟩
  have hz3 : Fr No w w3 := Fr.ofBelow (HZ3.out.below0.trans (hk3.1.mono hzl2)) No
  have hb3 := hk3.2.1 _ _ _ (by decide) (by decide) HB3.out
  have hp3 := hwr3.lt.1
  obtain ⟨ws, hws⟩ : ∃ ws, Hid (ws = wordsC z) := ⟨_, Lib.hid rfl⟩
  rw [← hws.out] at hwr3 Hwl Hlt Hback
  have CD := Lib.hid (done_any w2.heap.size g3 ws w3 hwr3 (by have := Hwl.out; omega))
  have Hwr3 := Lib.hid hwr3
  have HZ3 := Lib.hid hz3
  have HB3 := Lib.hid hb3
  clear hk3 hwr3 hz3 hb3 C3 k0 k1 k2 k3 k4 l2
  go_wp2_with fail
  refine (CD.out).mono ?_
  rintro e w4 ⟨A4, c4, rfl, hown4, hf4⟩
  have hsl4 := Sl.ofOwn hown4
  have hnil4 : A4 = none → ws.length = 0 ∧ c4 = 0 := by
    obtain ⟨A', c', k1, _, _, k2⟩ := own_shape hown4
    injection k1 with k1 k3 k4
    subst k1 k4
    exact k2
  have CN := Lib.hid (qnew_any ws A4 ws.length c4 w4 hsl4 rfl hnil4 (by have := Hwl.out; omega) Hlt.out)
  have HZ4 := Lib.hid (HZ3.out.then0 hf4 (fun _ h => h.elim))
  have Hwr4 := Lib.hid (Hwr3.out.fr hf4 (fun _ _ e => e))
  have HB4 := Lib.hid (HB3.out.fr hf4 (fun e => e))
  have hp4 := Hwr4.out.lt.1
  clear hown4 hsl4 hnil4 hf4 CD HZ3 Hwr3 HB3 Hlt hg3
  go_wp2_with fail
  refine (CN.out).mono ?_
  rintro e w5 ⟨r, rfl, hr5, hrd5, hf5⟩
  have Hnew := Lib.hid (Hwr4.out.not_of hr5)
  have HZ5 := Lib.hid (HZ4.out.then0 hf5 (fun _ h => h.elim))
  have Hwr5 := Lib.hid (Hwr4.out.fr hf5 (fun _ _ e => e))
  have HB5 := Lib.hid (HB4.out.fr hf5 (fun e => e))
  have CG := Lib.hid (get11_any r _ w5 hrd5 (fun k hk => hk))
  have hs4 := HZ4.out.size
  have hrl := hrd5.lt
  clear hrd5 hf5 CN HZ4 Hwr4 HB4
  go_wp2_with fail
  refine (CG.out).mono ?_
  rintro e w6 ⟨d, rfl, hdp, hdo, -, hrd6, hf6⟩
  have HZ6 := Lib.hid (HZ5.out.trans' hf6 (fun i hi e => by have e : i = r := e; omega))
  have Hwr6 := Lib.hid (Hwr5.out.fr hf6 (fun i ho e => Hnew.out (by have e : i = r := e; rw [← e]; exact ho)))
  have HB6 := Lib.hid (HB5.out.fr hf6 (fun e => by have e : w.heap.size = r := e; have := HB5.out.lt; omega))
  rw [Hback.out] at hdp hrd6 ⊢
  simp only [Option.map_some, Option.getD_some, Option.isSome_some] at hdp hrd6 ⊢
  have Hdp := Lib.hid hdp
  have HDo := Lib.hid (fun (V : World) (h : Fr No w6 V) => hdo V (h.weak (fun _ _ e => e.elim)))
  obtain ⟨dn, da, dS, dssL, dsc, dU, dusL, duc, dr⟩ := d
  unfold Cls.agg
  simp only
  obtain ⟨dss, hdss⟩ : ∃ k, Hid (k = dssL.length) := ⟨_, Lib.hid rfl⟩
  obtain ⟨dus, hdus⟩ : ∃ k, Hid (k = dusL.length) := ⟨_, Lib.hid rfl⟩
  rw [← hdss.out, ← hdus.out]
  obtain ⟨W7, hW7⟩ : ∃ W7, Hid (W7 = w6.alloc (.cells #[.string dn, .int .i64 da, .slice dS dss dsc, .slice dU dus duc, .bool dr] 24)) := ⟨_, Lib.hid rfl⟩
  obtain ⟨P, hP⟩ : ∃ P, Hid (P = w.heap.size) := ⟨_, Lib.hid rfl⟩
  obtain ⟨Q, hQ⟩ : ∃ Q, Hid (Q = w6.heap.size) := ⟨_, Lib.hid rfl⟩
  have hf7 : Fr No w6 W7 := by rw [hW7.out]; exact (Fr.refl _ _).alloc _
  have hB7 : Bk W7 P 24 #[.string nm, .int .i64 a, .slice A n sc, .slice U m uc, .bool res] := by rw [hP.out]; exact HB6.out.fr hf7 (fun e => e)
  have hQ7 : Bk W7 Q 24 #[.string dn, .int .i64 da, .slice dS dss dsc, .slice dU dus duc, .bool dr] := by rw [hQ.out, hW7.out]; exact Bk.made w6 _ _
  have HSA := Lib.hid (fun (V : World) (h : Fr No W7 V) => And.intro (hB7.fr h (fun e => e)) (hQ7.fr h (fun e => e)))
  have HS : Hid (∀ w', Fr No W7 w' → w'.cell? ⟨P, 0, none⟩ = some (.string nm) ∧ w'.cell? ⟨P, 1, none⟩ = some (.int .i64 a) ∧ w'.cell? ⟨P, 2, none⟩ = some (.slice A n sc) ∧ w'.cell? ⟨P, 3, none⟩ = some (.slice U m uc) ∧ w'.cell? ⟨P, 4, none⟩ = some (.bool res) ∧ w'.cell? ⟨Q, 0, none⟩ = some (.string dn) ∧ w'.cell? ⟨Q, 1, none⟩ = some (.int .i64 da) ∧ w'.cell? ⟨Q, 2, none⟩ = some (.slice dS dss dsc) ∧ w'.cell? ⟨Q, 3, none⟩ = some (.slice dU dus duc) ∧ w'.cell? ⟨Q, 4, none⟩ = some (.bool dr)) := Lib.hid (fun w' h => by
    obtain ⟨hp, hq⟩ := HSA.out w' h
    exact ⟨hp.cell 0, hp.cell 1, hp.cell 2, hp.cell 3, hp.cell 4, hq.cell 0, hq.cell 1, hq.cell 2, hq.cell 3, hq.cell 4⟩)
  have HZ7 := Lib.hid (HZ6.out.then0 hf7 (fun _ h => h.elim))
  have Hwr7 := Lib.hid (fun (V : World) (h : Fr No W7 V) => (Hwr6.out.fr hf7 (fun _ _ e => e)).fr h (fun _ _ e => e))
  have HDn := Lib.hid (fun (V : World) (h : Fr No W7 V) => done_any w2.heap.size g3 ws V (Hwr7.out V h) (by have := Hwl.out; omega))
  have HIt7 := Lib.hid (fun (V : World) (h : Fr No W7 V) => HIt.out V (HZ7.out.then0 h (fun _ h => h.elim)))
  have HEnd := Lib.hid (fun (V : World) (h : Fr No W7 V) => qend_any r (some []) V ((hrd6.fr hf7 (fun e => e) (fun _ e => e.elim)).fr h (fun e => e) (fun _ e => e.elim)))
  have HSm7 := Lib.hid (fun (V : World) (h : Fr No W7 V) => HSame.out ⟨dn, da, dS, dssL, dsc, dU, dusL, duc, dr⟩ V (HZ7.out.then0 h (fun _ h => h.elim)) (HDo.out V (hf7.then0 h (fun _ h => h.elim))))
  have hsame : PC.same z (Cls.p ⟨dn, da, dS, dssL, dsc, dU, dusL, duc, dr⟩) = true := by rw [Hdp.out]; exact pc_same_refl _
  rw [hsame] at HSm7
  simp only at HSm7
  rw [← hdss.out, ← hdus.out] at HSm7
  have hE1 : decide ((some ([] : List Nat)) = some []) = true := by simp
  rw [hE1] at HEnd
  have HWd := Lib.hid (fun (V : World) (A' : Option Addr) (c' : Nat) (h : Sl V V.heap.size A' ((itC z).flatMap It.cells)) => words11_any (itC z) A' (itC z).length c' V h rfl Hil.out (fun t ht => Hif.out t ht))
  rw [itC_words, ← hws.out] at HWd
  have HRw := Lib.hid (fun (V : World) (A1 A2 : Option Addr) (c1 c2 : Nat) (h1 : Sl V V.heap.size A1 (u64s ws)) (h2 : Sl V V.heap.size A2 (u64s ws)) => refWords_any ws ws A1 A2 ws.length ws.length c1 c2 V h1 h2 rfl rfl (by have := Hwl.out; omega) (by have := Hwl.out; omega))
  have hE2 : decide (ws = ws) = true := by simp
  rw [hE2] at HRw
  rw [hE2] at *
  have Hz7 := Lib.hid HZ7.out
  clear hE1 hE2 hsame hdo hdp hrd6 hf6 HB6 Hwr6 HDo hB7 hQ7 HSA HZ6 Hwr7 HSame HIt Hif HO HB5 Hwr5 HZ5 Hnew CG
  go_wp2_with fail
  rw [← hQ.out, ← hP.out, ← hW7.out]
  have gI0 := HS.out _ ((Fr.refl No W7).drew)
  go_region_held3 (fun w' => w'.cell? ⟨P, 0, none⟩ = some (.string nm) ∧ w'.cell? ⟨P, 1, none⟩ = some (.int .i64 a) ∧ w'.cell? ⟨P, 2, none⟩ = some (.slice A n sc) ∧ w'.cell? ⟨P, 3, none⟩ = some (.slice U m uc) ∧ w'.cell? ⟨P, 4, none⟩ = some (.bool res) ∧ w'.cell? ⟨Q, 0, none⟩ = some (.string dn) ∧ w'.cell? ⟨Q, 1, none⟩ = some (.int .i64 da) ∧ w'.cell? ⟨Q, 2, none⟩ = some (.slice dS dss dsc) ∧ w'.cell? ⟨Q, 3, none⟩ = some (.slice dU dus duc) ∧ w'.cell? ⟨Q, 4, none⟩ = some (.bool dr))
    (first | exact gI0 | exact gD | exact gI | exact gW | exact gX | exact gE | exact gS | exact gT | go_keep)
    (first
      | (go_at_call 8
         refine (HDn.out _ ((Fr.refl No W7).drew)).mono ?_
         rintro e wD ⟨AD, cD, rfl, ownD, fD⟩
         have FD : Fr No W7 wD := ((Fr.refl No W7).drew).then0 fD (fun _ h => h.elim)
         have slD := Sl.ofOwn ownD
         have gD := HS.out _ FD
         clear ownD)
      | (go_at_call 12
         refine (HIt7.out _ FD).mono ?_
         rintro e wI ⟨AI, cI, rfl, slI, -, fI⟩
         have FI : Fr No W7 wI := FD.then0 fI (fun _ h => h.elim)
         have slD2 := slD.since fI
         have gI := HS.out _ FI)
      | (go_at_call 11
         refine (HWd.out _ _ _ slI).mono ?_
         rintro e wW ⟨AW, cW, rfl, ownW, fW⟩
         have FW : Fr No W7 wW := FI.then0 fW (fun _ h => h.elim)
         have slD3 := slD2.since fW
         have slW := Sl.ofOwn ownW
         have gW := HS.out _ FW
         clear ownW)
      | (go_at_call 10
         refine (HRw.out _ _ _ _ _ slD3 slW).mono ?_
         rintro e wX ⟨rfl, fX⟩
         have FX : Fr No W7 wX := FW.then0 fX (fun _ h => h.elim)
         have gX := HS.out _ FX)
      | (go_at_call 13
         refine (HEnd.out _ FX).mono ?_
         rintro e wE ⟨rfl, fE⟩
         have FE : Fr No W7 wE := FX.then0 fE (fun _ h => h.elim)
         have gE := HS.out _ FE)
      | (go_at_call 14
         refine (HSm7.out _ FE).1.mono ?_
         rintro e wS ⟨rfl, fS⟩
         have FS : Fr No W7 wS := FE.then0 fS (fun _ h => h.elim)
         have gS := HS.out _ FS)
      | (go_at_call 15
         refine (HSm7.out _ FS).2.mono ?_
         rintro e wT ⟨rfl, fT⟩
         have FT : Fr No W7 wT := FS.then0 fT (fun _ h => h.elim)
         have gT := HS.out _ FT))
  all_goals
    go_wp2
    go_ret
    exact ⟨rfl, Hz7.out.then0 FT (fun _ h => h.elim)⟩
end Go.Proofs.YtnlmhcfkipkegaaGreat
