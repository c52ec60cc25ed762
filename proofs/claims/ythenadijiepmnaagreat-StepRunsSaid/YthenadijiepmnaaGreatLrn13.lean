/- The law: the outcome of any step over any store is the document's; the store isn't changed. -/
import Derived.Test.YthenadijiepmnaaGreatGrt13
import Derived.Test.YthenadijiepmnaaGreatRrn13
namespace Go.Proofs.YthenadijiepmnaaGreat
open Go.RowKit

set_option maxRecDepth 100000 in
set_option maxHeartbeats 8000000 in
theorem stepRuns_any (w : World) (x : StI w) (himm : ∀ i ∈ x.code, I64 i.x) {r : Nat → Int} (hr : ∀ i, i < 4 → I64 (r i)) (l : List (Int × Int)) (A1 : Option Addr) (n1 c1 : Nat) (hl : Sl w w.heap.size A1 (prs2 l)) (hn1 : l.length = n1) (hv : ∀ y ∈ l, -9223372036854775808 ≤ y.2 ∧ y.2 < 9223372036854775808) (ask : Bool) :
    Calls Tryz.prog 3 #[x.agg, x.args, .agg #[.int .i64 (r 0), .int .i64 (r 1), .int .i64 (r 2), .int .i64 (r 3)], .slice A1 n1 c1, .bool ask] w (Has w true) := by
  have Hal := Lib.hid (fun W => alive13 W)
  obtain ⟨gr, hgr⟩ : ∃ gr, (decide (20 < x.code.length) || (decide (20 < x.foot.length) || (decide (10 < x.gs.length) || decide (100 < n1)))) = gr := ⟨_, rfl⟩
  have HGr := Lib.hid (fun W (hW : Fr No w W) => great13 W (x.since hW) A1 n1 c1 gr hgr)
  change Hid (∀ W (_ : Fr No w W), Calls Tryz.prog 9 #[x.agg, x.args, .slice A1 n1 c1] W (Has W gr)) at HGr
  have f0 : Fr No w ((w.alloc (.cells #[.slice x.cA x.code.length x.cc, .slice x.fA x.foot.length x.fc] 25)).alloc (.cells #[.int .i64 (r 0), .int .i64 (r 1), .int .i64 (r 2), .int .i64 (r 3)] 27)) := ((Fr.refl _ _).alloc _).alloc _
  have bA := (Bk.made w 25 #[.slice x.cA x.code.length x.cc, .slice x.fA x.foot.length x.fc]).alloc (.cells #[.int .i64 (r 0), .int .i64 (r 1), .int .i64 (r 2), .int .i64 (r 3)] 27)
  have bB := Bk.made (w.alloc (.cells #[.slice x.cA x.code.length x.cc, .slice x.fA x.foot.length x.fc] 25)) 27 #[.int .i64 (r 0), .int .i64 (r 1), .int .i64 (r 2), .int .i64 (r 3)]
  simp only [World.size_alloc] at bB
  obtain ⟨q, hq⟩ : ∃ q, w.heap.size = q := ⟨_, rfl⟩
  rw [hq] at bA bB
  obtain ⟨W0, hW0⟩ : ∃ W0, (w.alloc (.cells #[.slice x.cA x.code.length x.cc, .slice x.fA x.foot.length x.fc] 25)).alloc (.cells #[.int .i64 (r 0), .int .i64 (r 1), .int .i64 (r 2), .int .i64 (r 3)] 27) = W0 := ⟨_, rfl⟩
  rw [hW0] at bA bB f0
  have HF0 := Lib.hid f0
  have HbA := Lib.hid (fun W (h : Fr No W0 W) => bA.fr h (fun e => e))
  have HbB := Lib.hid (fun W (h : Fr No W0 W) => bB.fr h (fun e => e))
  cases gr
  · have hgn := great_not hgr
    have hfw : x.Few := ⟨by have := hgn.1; omega, by have := hgn.2.1; omega, by have := hgn.2.2.1; omega⟩
    have HOf := Lib.hid (fun W (hW : Fr No w W) => pOf_any l A1 n1 c1 W (hl.since hW) hn1 (by omega) hv)
    have HRf := Lib.hid (fun W (hW : Fr No w W) => refOf13_any l A1 n1 c1 W (hl.since hW) hn1 (by omega))
    obtain ⟨hinv, hval⟩ := ofP_all l
    have hvals : ∀ k v, mapOf l k = some v → I64 v := by rw [← hval]; exact ofP_vals hv
    have HRun := Lib.hid (fun W S s (hW : Fr No w W) (hp : PS W S s (ofP l)) => sRun_any W (x.since hW) hfw hinv hp (ofP_vals hv) himm hr ask)
    change Hid (∀ W S s (_ : Fr No w W) (_ : PS W S s (ofP l)), Calls Tryz.prog 12 #[x.agg, x.args, .agg #[.int .i64 (r 0), .int .i64 (r 1), .int .i64 (r 2), .int .i64 (r 3)], .pointer (some ⟨s, 0, none⟩), .bool ask] W (OutC (runS x.right ask (keysOf (chosen false x.gs x.foot)) (keysOf (chosen true x.gs x.foot)) x.gs x.code r (valP (ofP l).flatten)) W)) at HRun
    rw [hval] at HRun
    have HRef := Lib.hid (fun W g (hW : Fr No w W) (hg : RM W g (mapOf l)) => refRun13_any W (x.since hW) hfw himm hr hg hvals ask)
    change Hid (∀ W g (_ : Fr No w W) (_ : RM W g (mapOf l)), Calls Tryz.prog 14 #[x.agg, x.args, .agg #[.int .i64 (r 0), .int .i64 (r 1), .int .i64 (r 2), .int .i64 (r 3)], .pointer (some ⟨g, 0, none⟩), .bool ask] W (OutC (runS x.right ask (keysOf (chosen false x.gs x.foot)) (keysOf (chosen true x.gs x.foot)) x.gs x.code r (mapOf l)) W)) at HRef
    have Hfew := Lib.hid (runS_few x.right ask (keysOf (chosen false x.gs x.foot)) (keysOf (chosen true x.gs x.foot)) x.gs x.code r (mapOf l))
    have Hpm : Hid (pairsM (mapOf l) = (ofP l).flatten) := Lib.hid (pairsM_eq hinv (fun k _ => by rw [hval]))
    have Hlen := Lib.hid (hinv.len.1)
    have Hinv := Lib.hid hinv
    generalize runS x.right ask (keysOf (chosen false x.gs x.foot)) (keysOf (chosen true x.gs x.foot)) x.gs x.code r (mapOf l) = po at *
    unfold StI.agg StI.args at HGr HRun HRef ⊢
    clear hgr hgn hfw hl hn1 hv hinv hval hvals himm hr bA bB f0
    generalize ofP l = P at *
    generalize mapOf l = mm at *
    generalize x.code.length = nc at *
    generalize x.foot.length = nf at *
    generalize x.gs.length = ng at *
    go_enter Tryz.func3, Tryz.ntmps3
    go_wp2_with fail
    refine (Hal.out _).mono ?_
    rintro e w1 ⟨rfl, f1⟩
    have ua := HbA.out _ (f1)
    have a0 := ua.cell 0
    have a1 := ua.cell 1
    simp only [List.getElem?_toArray, List.getElem?_cons_succ, List.getElem?_cons_zero] at a0 a1
    clear ua
    have F1 := Lib.hid f1
    clear f1
    go_wp2_with fail
    refine (HGr.out _ (HF0.out.trans' F1.out (fun _ _ e => e))).mono ?_
    rintro e w2 ⟨rfl, f2⟩
    have F2 := Lib.hid (F1.out.trans' f2 (fun _ _ e => e))
    clear f2 a0 a1
    go_wp2_with fail
    refine (HOf.out _ (HF0.out.trans' F2.out (fun _ _ e => e))).mono ?_
    rintro e w3 ⟨s, S, rfl, hps, hS, f3⟩
    have F3 := Lib.hid (F2.out.trans' f3 (fun _ _ e => e))
    have Hps := Lib.hid hps
    clear f3 hps hS
    go_wp2_with fail
    refine (HRf.out _ (HF0.out.trans' F3.out (fun _ _ e => e))).mono ?_
    rintro e w4 ⟨g, rfl, hrm, -, f4⟩
    have F4 := Lib.hid (F3.out.trans' f4 (fun _ _ e => e))
    have Hps4 := Lib.hid (Hps.out.fr f4 (fun _ _ e => e))
    have Hrm := Lib.hid hrm
    have ua := HbA.out _ (F4.out)
    have a0 := ua.cell 0
    have a1 := ua.cell 1
    simp only [List.getElem?_toArray, List.getElem?_cons_succ, List.getElem?_cons_zero] at a0 a1
    clear ua
    have ub := HbB.out _ (F4.out)
    have b0 := ub.cell 0
    have b1 := ub.cell 1
    have b2 := ub.cell 2
    have b3 := ub.cell 3
    simp only [List.getElem?_toArray, List.getElem?_cons_succ, List.getElem?_cons_zero] at b0 b1 b2 b3
    clear ub
    clear f4 hrm Hps
    go_wp2_with fail
    refine (HRun.out _ S s (HF0.out.trans' F4.out (fun _ _ e => e)) Hps4.out).mono ?_
    rintro e w5 ⟨o, rfl, hop, hos, -, f5⟩
    obtain ⟨u, hu⟩ : ∃ u, w5.heap.size = u := ⟨_, rfl⟩
    have f6 : Fr No w5 (w5.alloc (.cells #[.int .i64 o.p.code, .int .i64 o.p.at_, .int .i64 (o.p.r 0), .int .i64 (o.p.r 1), .int .i64 (o.p.r 2), .int .i64 (o.p.r 3), .slice o.rA o.p.rd.length o.rc, .slice o.wA o.p.wt.length o.wc, .slice o.cA o.p.ch.length o.cc] 39)) := (Fr.refl _ _).alloc _
    have bO := Bk.made w5 39 #[.int .i64 o.p.code, .int .i64 o.p.at_, .int .i64 (o.p.r 0), .int .i64 (o.p.r 1), .int .i64 (o.p.r 2), .int .i64 (o.p.r 3), .slice o.rA o.p.rd.length o.rc, .slice o.wA o.p.wt.length o.wc, .slice o.cA o.p.ch.length o.cc]
    obtain ⟨W5, hW5⟩ : ∃ W5, w5.alloc (.cells #[.int .i64 o.p.code, .int .i64 o.p.at_, .int .i64 (o.p.r 0), .int .i64 (o.p.r 1), .int .i64 (o.p.r 2), .int .i64 (o.p.r 3), .slice o.rA o.p.rd.length o.rc, .slice o.wA o.p.wt.length o.wc, .slice o.cA o.p.ch.length o.cc] 39) = W5 := ⟨_, rfl⟩
    rw [hW5] at f6 bO
    rw [hu] at bO
    have F5 := Lib.hid ((F4.out.trans' f5 (fun _ _ e => e)).trans' f6 (fun _ _ e => e))
    have HbO := Lib.hid (fun W (h : Fr No W5 W) => bO.fr h (fun e => e))
    have Hos := Lib.hid (hos.since f6)
    have HS5 := Lib.hid (Hps4.out.fr (f5.trans' f6 (fun _ _ e => e)) (fun _ _ e => e))
    have HR5 := Lib.hid (Hrm.out.fr (f5.trans' f6 (fun _ _ e => e)) (fun e => e))
    have Hsml : Hid (o.Small) := Lib.hid ⟨by rw [hop]; have := Hfew.out.1; omega, by rw [hop]; have := Hfew.out.2.1; omega, by rw [hop]; have := Hfew.out.2.2; omega⟩
    have HSm := Lib.hid (fun W (ho : Otcs W W.heap.size o) (o2 : Otc) (h2 : o2.p = po) (ho2 : Otcs W W.heap.size o2) => show Calls Tryz.prog 13 #[o.agg, o2.agg] W (Has W true) from by
      have h := refSame13_any o o2 W ho ho2 Hsml.out ⟨by rw [h2, ← hop]; exact Hsml.out.1, by rw [h2, ← hop]; exact Hsml.out.2.1, by rw [h2, ← hop]; exact Hsml.out.2.2⟩
      rw [h2, hop, samePo_refl] at h
      exact h)
    have HRefW := Lib.hid (fun W (h : Fr No W5 W) => HRef.out W g (HF0.out.trans' (F5.out.trans' h (fun _ _ e => e)) (fun _ _ e => e)) (HR5.out.fr h (fun e => e)))
    have HScW := Lib.hid (fun W (h : Fr No W5 W) => scan_all Hinv.out HS5.out W h)
    have HPrW := Lib.hid (fun W (h : Fr No W5 W) => refPairs13_any g mm W (HR5.out.fr h (fun e => e)))
    rw [Hpm.out] at HPrW
    have HSq := Lib.hid (fun (A1 A2 : Option Addr) (d1 d2 : Nat) W (h1 : Sl W W.heap.size A1 (prs P.flatten)) (h2 : Sl W W.heap.size A2 (prs P.flatten)) => show Calls Tryz.prog 15 #[.slice A1 P.flatten.length d1, .slice A2 P.flatten.length d2] W (Has W true) from by
      have h := refSame5_any P.flatten P.flatten A1 A2 P.flatten.length P.flatten.length d1 d2 W h1 h2 rfl rfl (by have := Hlen.out; omega) (by have := Hlen.out; omega)
      rw [decide_eq_true rfl] at h
      exact h)
    have HAG : Hid (o.agg = .agg #[.int .i64 o.p.code, .int .i64 o.p.at_, .int .i64 (o.p.r 0), .int .i64 (o.p.r 1), .int .i64 (o.p.r 2), .int .i64 (o.p.r 3), .slice o.rA o.p.rd.length o.rc, .slice o.wA o.p.wt.length o.wc, .slice o.cA o.p.ch.length o.cc]) := Lib.hid rfl
    have Hout := Lib.hid (fun W (h : Fr No W5 W) => HF0.out.trans' (F5.out.trans' h (fun _ _ e => e)) (fun _ _ e => e))
    generalize P.flatten.length = np at *
    obtain ⟨nr, hnr⟩ : ∃ n, o.p.rd.length = n := ⟨_, rfl⟩
    obtain ⟨nw, hnw⟩ : ∃ n, o.p.wt.length = n := ⟨_, rfl⟩
    obtain ⟨nch, hnch⟩ : ∃ n, o.p.ch.length = n := ⟨_, rfl⟩
    unfold Otc.agg
    rw [hnr, hnw, hnch] at hW5 HbO HAG ⊢
    clear hnr hnw hnch hop hos f5 f6 bO HRun HOf HRf HGr HRef Hps4 Hrm Hal a0 a1 b0 b1 b2 b3 Hpm Hfew Hlen
    go_wp2_with fail
    have uas := HbA.out _ (F5.out.trans' (Fr.refl No W5) (fun _ _ e => e))
    have as0 := uas.cell 0
    have as1 := uas.cell 1
    simp only [List.getElem?_toArray, List.getElem?_cons_succ, List.getElem?_cons_zero] at as0 as1
    clear uas
    have ubs := HbB.out _ (F5.out.trans' (Fr.refl No W5) (fun _ _ e => e))
    have bs0 := ubs.cell 0
    have bs1 := ubs.cell 1
    have bs2 := ubs.cell 2
    have bs3 := ubs.cell 3
    simp only [List.getElem?_toArray, List.getElem?_cons_succ, List.getElem?_cons_zero] at bs0 bs1 bs2 bs3
    clear ubs
    have uos := HbO.out _ (Fr.refl No W5)
    have os0 := uos.cell 0
    have os1 := uos.cell 1
    have os2 := uos.cell 2
    have os3 := uos.cell 3
    have os4 := uos.cell 4
    have os5 := uos.cell 5
    have os6 := uos.cell 6
    have os7 := uos.cell 7
    have os8 := uos.cell 8
    simp only [List.getElem?_toArray, List.getElem?_cons_succ, List.getElem?_cons_zero] at os0 os1 os2 os3 os4 os5 os6 os7 os8
    clear uos
    refine wp_region_held_drew (S := fun w' => w'.cell? ⟨q, 0, none⟩ = some (.slice x.cA nc x.cc) ∧ w'.cell? ⟨q, 1, none⟩ = some (.slice x.fA nf x.fc) ∧ w'.cell? ⟨q + 1, 0, none⟩ = some (.int .i64 (r 0)) ∧ w'.cell? ⟨q + 1, 1, none⟩ = some (.int .i64 (r 1)) ∧ w'.cell? ⟨q + 1, 2, none⟩ = some (.int .i64 (r 2)) ∧ w'.cell? ⟨q + 1, 3, none⟩ = some (.int .i64 (r 3)) ∧ w'.cell? ⟨u, 0, none⟩ = some (.int .i64 o.p.code) ∧ w'.cell? ⟨u, 1, none⟩ = some (.int .i64 o.p.at_) ∧ w'.cell? ⟨u, 2, none⟩ = some (.int .i64 (o.p.r 0)) ∧ w'.cell? ⟨u, 3, none⟩ = some (.int .i64 (o.p.r 1)) ∧ w'.cell? ⟨u, 4, none⟩ = some (.int .i64 (o.p.r 2)) ∧ w'.cell? ⟨u, 5, none⟩ = some (.int .i64 (o.p.r 3)) ∧ w'.cell? ⟨u, 6, none⟩ = some (.slice o.rA nr o.rc) ∧ w'.cell? ⟨u, 7, none⟩ = some (.slice o.wA nw o.wc) ∧ w'.cell? ⟨u, 8, none⟩ = some (.slice o.cA nch o.cc)) (by kernel_rfl) (⟨as0, as1, bs0, bs1, bs2, bs3, os0, os1, os2, os3, os4, os5, os6, os7, os8⟩) (fun hHeld => ?_)
    refine any_take 30 (.agg #[.int .i64 o.p.code, .int .i64 o.p.at_, .int .i64 (o.p.r 0), .int .i64 (o.p.r 1), .int .i64 (o.p.r 2), .int .i64 (o.p.r 3), .slice o.rA nr o.rc, .slice o.wA nw o.wc, .slice o.cA nch o.cc]) (i := 0) rfl rfl (by kernel_rfl) (by kernel_rfl) (by kernel_rfl) (fun _ _ _ h => h) (by rfl) (by intro w hSw; (try dsimp only at hSw); go_simp; try with_reducible rfl) (by assumption) ?_
    simp only [Act.put, List.setIfInBounds_toArray, List.set_cons_zero, List.set_cons_succ]
    refine any_take 31 (.agg #[.slice x.cA nc x.cc, .slice x.fA nf x.fc]) (i := 1) rfl rfl (by kernel_rfl) (by kernel_rfl) (by kernel_rfl) (fun _ _ _ h => h) (by rfl) (by intro w hSw; (try dsimp only at hSw); go_simp; try with_reducible rfl) (by assumption) ?_
    simp only [Act.put, List.setIfInBounds_toArray, List.set_cons_zero, List.set_cons_succ]
    refine any_take 32 (.slice x.gA ng x.gc) (i := 2) rfl rfl (by kernel_rfl) (by kernel_rfl) (by kernel_rfl) (fun _ _ _ h => h) (by rfl) (by intro w hSw; (try dsimp only at hSw); go_simp; try with_reducible rfl) (by assumption) ?_
    simp only [Act.put, List.setIfInBounds_toArray, List.set_cons_zero, List.set_cons_succ]
    refine any_take 33 (.agg #[.int .i64 (r 0), .int .i64 (r 1), .int .i64 (r 2), .int .i64 (r 3)]) (i := 3) rfl rfl (by kernel_rfl) (by kernel_rfl) (by kernel_rfl) (fun _ _ _ h => h) (by rfl) (by intro w hSw; (try dsimp only at hSw); go_simp; try with_reducible rfl) (by assumption) ?_
    simp only [Act.put, List.setIfInBounds_toArray, List.set_cons_zero, List.set_cons_succ]
    refine any_take 34 (.pointer (some ⟨g, 0, none⟩)) (i := 4) rfl rfl (by kernel_rfl) (by kernel_rfl) (by kernel_rfl) (fun _ _ _ h => h) (by rfl) (by intro w hSw; (try dsimp only at hSw); go_simp; try with_reducible rfl) (by assumption) ?_
    simp only [Act.put, List.setIfInBounds_toArray, List.set_cons_zero, List.set_cons_succ]
    refine any_take 35 (.bool ask) (i := 5) rfl rfl (by kernel_rfl) (by kernel_rfl) (by kernel_rfl) (fun _ _ _ h => h) (by rfl) (by intro w hSw; (try dsimp only at hSw); go_simp; try with_reducible rfl) (by assumption) ?_
    simp only [Act.put, List.setIfInBounds_toArray, List.set_cons_zero, List.set_cons_succ]
    refine wpAnyH_ready (rs := [6]) (by kernel_rfl) (by simp) ?_
    refine AllReadyH.cons rfl (fun K' hK => ?_) AllReadyH.nil
    go_simp
    go_at_call 14
    refine (HRefW.out _ ((Fr.refl No W5).drew)).mono ?_
    rintro e' v5 ⟨o2, rfl, ho2p, hos2, -, e5⟩
    have E5 := Lib.hid (((Fr.refl No W5).drew).trans' e5 (fun _ _ e => e))
    have HSA := Lib.hid (HSm.out _ (Hos.out.since E5.out) o2 ho2p hos2)
    rw [HAG.out] at HSA
    have uat := HbA.out _ (F5.out.trans' (E5.out) (fun _ _ e => e))
    have at0 := uat.cell 0
    have at1 := uat.cell 1
    simp only [List.getElem?_toArray, List.getElem?_cons_succ, List.getElem?_cons_zero] at at0 at1
    clear uat
    have ubt := HbB.out _ (F5.out.trans' (E5.out) (fun _ _ e => e))
    have bt0 := ubt.cell 0
    have bt1 := ubt.cell 1
    have bt2 := ubt.cell 2
    have bt3 := ubt.cell 3
    simp only [List.getElem?_toArray, List.getElem?_cons_succ, List.getElem?_cons_zero] at bt0 bt1 bt2 bt3
    clear ubt
    have uot := HbO.out _ (E5.out)
    have ot0 := uot.cell 0
    have ot1 := uot.cell 1
    have ot2 := uot.cell 2
    have ot3 := uot.cell 3
    have ot4 := uot.cell 4
    have ot5 := uot.cell 5
    have ot6 := uot.cell 6
    have ot7 := uot.cell 7
    have ot8 := uot.cell 8
    simp only [List.getElem?_toArray, List.getElem?_cons_succ, List.getElem?_cons_zero] at ot0 ot1 ot2 ot3 ot4 ot5 ot6 ot7 ot8
    clear uot
    dsimp only
    refine hK.out _ _ (⟨at0, at1, bt0, bt1, bt2, bt3, ot0, ot1, ot2, ot3, ot4, ot5, ot6, ot7, ot8⟩) (fun hHeld => ?_)
    clear hK
    try simp only [Act.put, List.setIfInBounds_toArray, List.set_cons_zero, List.set_cons_succ]
    refine wpAnyH_ready (rs := [7]) (by kernel_rfl) (by simp) ?_
    refine AllReadyH.cons rfl (fun K' hK => ?_) AllReadyH.nil
    go_simp
    go_at_call 13
    refine (HSA.out).mono ?_
    rintro e' v6 ⟨rfl, e6⟩
    have E6 := Lib.hid (E5.out.trans' e6 (fun _ _ e => e))
    have uaz := HbA.out _ (F5.out.trans' (E6.out) (fun _ _ e => e))
    have az0 := uaz.cell 0
    have az1 := uaz.cell 1
    simp only [List.getElem?_toArray, List.getElem?_cons_succ, List.getElem?_cons_zero] at az0 az1
    clear uaz
    have ubz := HbB.out _ (F5.out.trans' (E6.out) (fun _ _ e => e))
    have bz0 := ubz.cell 0
    have bz1 := ubz.cell 1
    have bz2 := ubz.cell 2
    have bz3 := ubz.cell 3
    simp only [List.getElem?_toArray, List.getElem?_cons_succ, List.getElem?_cons_zero] at bz0 bz1 bz2 bz3
    clear ubz
    have uoz := HbO.out _ (E6.out)
    have oz0 := uoz.cell 0
    have oz1 := uoz.cell 1
    have oz2 := uoz.cell 2
    have oz3 := uoz.cell 3
    have oz4 := uoz.cell 4
    have oz5 := uoz.cell 5
    have oz6 := uoz.cell 6
    have oz7 := uoz.cell 7
    have oz8 := uoz.cell 8
    simp only [List.getElem?_toArray, List.getElem?_cons_succ, List.getElem?_cons_zero] at oz0 oz1 oz2 oz3 oz4 oz5 oz6 oz7 oz8
    clear uoz
    dsimp only
    refine hK.out _ _ (⟨az0, az1, bz0, bz1, bz2, bz3, oz0, oz1, oz2, oz3, oz4, oz5, oz6, oz7, oz8⟩) (fun hHeld => ?_)
    clear hK
    try simp only [Act.put, List.setIfInBounds_toArray, List.set_cons_zero, List.set_cons_succ]
    refine any_take 38 (.bool true) (i := 8) rfl rfl (by kernel_rfl) (by kernel_rfl) (by kernel_rfl) (fun _ _ _ h => h) (by rfl) (by intro w hSw; (try dsimp only at hSw); go_simp; try with_reducible rfl) (by assumption) ?_
    simp only [Act.put, List.setIfInBounds_toArray, List.set_cons_zero, List.set_cons_succ]
    refine any_take 39 (.pointer (some ⟨s, 0, none⟩)) (i := 9) rfl rfl (by kernel_rfl) (by kernel_rfl) (by kernel_rfl) (fun _ _ _ h => h) (by rfl) (by intro w hSw; (try dsimp only at hSw); go_simp; try with_reducible rfl) (by assumption) ?_
    simp only [Act.put, List.setIfInBounds_toArray, List.set_cons_zero, List.set_cons_succ]
    refine any_take 41 (.pointer (some ⟨g, 0, none⟩)) (i := 11) rfl rfl (by kernel_rfl) (by kernel_rfl) (by kernel_rfl) (fun _ _ _ h => h) (by rfl) (by intro w hSw; (try dsimp only at hSw); go_simp; try with_reducible rfl) (by assumption) ?_
    simp only [Act.put, List.setIfInBounds_toArray, List.set_cons_zero, List.set_cons_succ]
    refine wpAnyH_ready (rs := [10]) (by kernel_rfl) (by simp) ?_
    refine AllReadyH.cons rfl (fun K' hK => ?_) AllReadyH.nil
    go_simp
    go_at_call 16
    refine (HScW.out _ E6.out).mono ?_
    rintro e' v7 ⟨B1, d1, rfl, hsc, e7⟩
    have E7 := Lib.hid (E6.out.trans' e7 (fun _ _ e => e))
    have Hsc := Lib.hid hsc
    have uay := HbA.out _ (F5.out.trans' (E7.out) (fun _ _ e => e))
    have ay0 := uay.cell 0
    have ay1 := uay.cell 1
    simp only [List.getElem?_toArray, List.getElem?_cons_succ, List.getElem?_cons_zero] at ay0 ay1
    clear uay
    have uby := HbB.out _ (F5.out.trans' (E7.out) (fun _ _ e => e))
    have by0 := uby.cell 0
    have by1 := uby.cell 1
    have by2 := uby.cell 2
    have by3 := uby.cell 3
    simp only [List.getElem?_toArray, List.getElem?_cons_succ, List.getElem?_cons_zero] at by0 by1 by2 by3
    clear uby
    have uoy := HbO.out _ (E7.out)
    have oy0 := uoy.cell 0
    have oy1 := uoy.cell 1
    have oy2 := uoy.cell 2
    have oy3 := uoy.cell 3
    have oy4 := uoy.cell 4
    have oy5 := uoy.cell 5
    have oy6 := uoy.cell 6
    have oy7 := uoy.cell 7
    have oy8 := uoy.cell 8
    simp only [List.getElem?_toArray, List.getElem?_cons_succ, List.getElem?_cons_zero] at oy0 oy1 oy2 oy3 oy4 oy5 oy6 oy7 oy8
    clear uoy
    dsimp only
    refine hK.out _ _ (⟨ay0, ay1, by0, by1, by2, by3, oy0, oy1, oy2, oy3, oy4, oy5, oy6, oy7, oy8⟩) (fun hHeld => ?_)
    clear hK
    try simp only [Act.put, List.setIfInBounds_toArray, List.set_cons_zero, List.set_cons_succ]
    refine wpAnyH_ready (rs := [12]) (by kernel_rfl) (by simp) ?_
    refine AllReadyH.cons rfl (fun K' hK => ?_) AllReadyH.nil
    go_simp
    go_at_call 17
    refine (HPrW.out _ E7.out).mono ?_
    rintro e' v8 ⟨B2, d2, rfl, hpr, e8⟩
    have E8 := Lib.hid (E7.out.trans' e8 (fun _ _ e => e))
    have Hsc8 := Lib.hid (Hsc.out.since e8)
    have uax := HbA.out _ (F5.out.trans' (E8.out) (fun _ _ e => e))
    have ax0 := uax.cell 0
    have ax1 := uax.cell 1
    simp only [List.getElem?_toArray, List.getElem?_cons_succ, List.getElem?_cons_zero] at ax0 ax1
    clear uax
    have ubx := HbB.out _ (F5.out.trans' (E8.out) (fun _ _ e => e))
    have bx0 := ubx.cell 0
    have bx1 := ubx.cell 1
    have bx2 := ubx.cell 2
    have bx3 := ubx.cell 3
    simp only [List.getElem?_toArray, List.getElem?_cons_succ, List.getElem?_cons_zero] at bx0 bx1 bx2 bx3
    clear ubx
    have uox := HbO.out _ (E8.out)
    have ox0 := uox.cell 0
    have ox1 := uox.cell 1
    have ox2 := uox.cell 2
    have ox3 := uox.cell 3
    have ox4 := uox.cell 4
    have ox5 := uox.cell 5
    have ox6 := uox.cell 6
    have ox7 := uox.cell 7
    have ox8 := uox.cell 8
    simp only [List.getElem?_toArray, List.getElem?_cons_succ, List.getElem?_cons_zero] at ox0 ox1 ox2 ox3 ox4 ox5 ox6 ox7 ox8
    clear uox
    dsimp only
    refine hK.out _ _ (⟨ax0, ax1, bx0, bx1, bx2, bx3, ox0, ox1, ox2, ox3, ox4, ox5, ox6, ox7, ox8⟩) (fun hHeld => ?_)
    clear hK
    try simp only [Act.put, List.setIfInBounds_toArray, List.set_cons_zero, List.set_cons_succ]
    refine wpAnyH_ready (rs := [13]) (by kernel_rfl) (by simp) ?_
    refine AllReadyH.cons rfl (fun K' hK => ?_) AllReadyH.nil
    go_simp
    go_at_call 15
    refine (HSq.out B1 B2 d1 d2 _ Hsc8.out hpr).mono ?_
    rintro e' v9 ⟨rfl, e9⟩
    have FZ := E8.out.trans' e9 (fun _ _ e => e)
    have uav := HbA.out _ (F5.out.trans' (FZ) (fun _ _ e => e))
    have av0 := uav.cell 0
    have av1 := uav.cell 1
    simp only [List.getElem?_toArray, List.getElem?_cons_succ, List.getElem?_cons_zero] at av0 av1
    clear uav
    have ubv := HbB.out _ (F5.out.trans' (FZ) (fun _ _ e => e))
    have bv0 := ubv.cell 0
    have bv1 := ubv.cell 1
    have bv2 := ubv.cell 2
    have bv3 := ubv.cell 3
    simp only [List.getElem?_toArray, List.getElem?_cons_succ, List.getElem?_cons_zero] at bv0 bv1 bv2 bv3
    clear ubv
    have uov := HbO.out _ (FZ)
    have ov0 := uov.cell 0
    have ov1 := uov.cell 1
    have ov2 := uov.cell 2
    have ov3 := uov.cell 3
    have ov4 := uov.cell 4
    have ov5 := uov.cell 5
    have ov6 := uov.cell 6
    have ov7 := uov.cell 7
    have ov8 := uov.cell 8
    simp only [List.getElem?_toArray, List.getElem?_cons_succ, List.getElem?_cons_zero] at ov0 ov1 ov2 ov3 ov4 ov5 ov6 ov7 ov8
    clear uov
    dsimp only
    refine hK.out _ _ (⟨av0, av1, bv0, bv1, bv2, bv3, ov0, ov1, ov2, ov3, ov4, ov5, ov6, ov7, ov8⟩) (fun hHeld => ?_)
    clear hK
    try simp only [Act.put, List.setIfInBounds_toArray, List.set_cons_zero, List.set_cons_succ]
    refine any_take 44 (.bool true) (i := 14) rfl rfl (by kernel_rfl) (by kernel_rfl) (by kernel_rfl) (fun _ _ _ h => h) (by rfl) (by intro w hSw; (try dsimp only at hSw); go_simp; try with_reducible rfl) (by assumption) ?_
    simp only [Act.put, List.setIfInBounds_toArray, List.set_cons_zero, List.set_cons_succ]
    refine any_take 10 (.bool true) (i := 15) rfl rfl (by kernel_rfl) (by kernel_rfl) (by kernel_rfl) (fun _ _ _ h => h) (by rfl) (by intro w hSw; (try dsimp only at hSw); go_simp; try with_reducible rfl) (by assumption) ?_
    simp only [Act.put, List.setIfInBounds_toArray, List.set_cons_zero, List.set_cons_succ]
    refine wpAnyH_done (by kernel_rfl) ?_ _
    clear hHeld
    go_wp2
    go_ret
    exact ⟨rfl, Hout.out _ FZ⟩
  · unfold StI.agg StI.args at HGr ⊢
    clear hl hn1 hv himm hr bA bB f0 hgr
    generalize x.code.length = nc at *
    generalize x.foot.length = nf at *
    generalize x.gs.length = ng at *
    go_enter Tryz.func3, Tryz.ntmps3
    go_wp2_with fail
    refine (Hal.out _).mono ?_
    rintro e w1 ⟨rfl, f1⟩
    have ua := HbA.out _ (f1)
    have a0 := ua.cell 0
    have a1 := ua.cell 1
    simp only [List.getElem?_toArray, List.getElem?_cons_succ, List.getElem?_cons_zero] at a0 a1
    clear ua
    have F1 := Lib.hid f1
    clear f1
    go_wp2_with fail
    refine (HGr.out _ (HF0.out.trans' F1.out (fun _ _ e => e))).mono ?_
    rintro e w2 ⟨rfl, f2⟩
    have F2 := Lib.hid (F1.out.trans' f2 (fun _ _ e => e))
    clear f2 a0 a1
    go_wp2
    go_ret
    exact ⟨rfl, HF0.out.trans' F2.out (fun _ _ e => e)⟩
end Go.Proofs.YthenadijiepmnaaGreat
