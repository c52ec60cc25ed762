/- The law: what a step that doesn't fail read and wrote its footprint covers; each change is of a key that was written; over a store that differs in another key than it reads it has the same outcome. -/
import Derived.Test.YthenadijiepmnaaGreatCvr13
import Derived.Test.YthenadijiepmnaaGreatLap13
import Derived.Test.YthenadijiepmnaaGreatSam13
import Derived.Test.YthenadijiepmnaaGreatRse10
namespace Go.Proofs.YthenadijiepmnaaGreat
open Go.RowKit

theorem putP_val {P : List Pg} (hi : InvP P) {k : Nat} (v : Int) : ∀ j, valP (putP P k v).flatten j = if j = k then some v else valP P.flatten j := by
  intro j
  rw [putP_pairs hi, valP_ins hi.rise]
set_option maxRecDepth 100000 in
set_option maxHeartbeats 8000000 in
theorem stepCovers_any (w : World) (x : StI w) (himm : ∀ i ∈ x.code, I64 i.x) {r : Nat → Int} (hr : ∀ i, i < 4 → I64 (r i)) (l : List (Int × Int)) (A1 : Option Addr) (n1 c1 : Nat) (hl : Sl w w.heap.size A1 (prs2 l)) (hn1 : l.length = n1) (hv : ∀ y ∈ l, -9223372036854775808 ≤ y.2 ∧ y.2 < 9223372036854775808) (ok ov : Int) (hov : I64 ov) :
    Calls Tryz.prog 6 #[x.agg, x.args, .agg #[.int .i64 (r 0), .int .i64 (r 1), .int .i64 (r 2), .int .i64 (r 3)], .slice A1 n1 c1, .agg #[.int .i64 ok, .int .i64 ov]] w (Has w true) := by
  have Hal := Lib.hid (fun W => alive13 W)
  obtain ⟨gr, hgr⟩ : ∃ gr, (decide (20 < x.code.length) || (decide (20 < x.foot.length) || (decide (10 < x.gs.length) || decide (100 < n1)))) = gr := ⟨_, rfl⟩
  have HGr := Lib.hid (fun W (hW : Fr No w W) => great13 W (x.since hW) A1 n1 c1 gr hgr)
  change Hid (∀ W (_ : Fr No w W), Calls Tryz.prog 9 #[x.agg, x.args, .slice A1 n1 c1] W (Has W gr)) at HGr
  have f0 : Fr No w (((w.alloc (.cells #[.slice x.cA x.code.length x.cc, .slice x.fA x.foot.length x.fc] 25)).alloc (.cells #[.int .i64 (r 0), .int .i64 (r 1), .int .i64 (r 2), .int .i64 (r 3)] 27)).alloc (.cells #[.int .i64 ok, .int .i64 ov] 54)) := (((Fr.refl _ _).alloc _).alloc _).alloc _
  have bA := ((Bk.made w 25 #[.slice x.cA x.code.length x.cc, .slice x.fA x.foot.length x.fc]).alloc (.cells #[.int .i64 (r 0), .int .i64 (r 1), .int .i64 (r 2), .int .i64 (r 3)] 27)).alloc (.cells #[.int .i64 ok, .int .i64 ov] 54)
  have bB := (Bk.made (w.alloc (.cells #[.slice x.cA x.code.length x.cc, .slice x.fA x.foot.length x.fc] 25)) 27 #[.int .i64 (r 0), .int .i64 (r 1), .int .i64 (r 2), .int .i64 (r 3)]).alloc (.cells #[.int .i64 ok, .int .i64 ov] 54)
  have bC := Bk.made ((w.alloc (.cells #[.slice x.cA x.code.length x.cc, .slice x.fA x.foot.length x.fc] 25)).alloc (.cells #[.int .i64 (r 0), .int .i64 (r 1), .int .i64 (r 2), .int .i64 (r 3)] 27)) 54 #[.int .i64 ok, .int .i64 ov]
  simp only [World.size_alloc] at bB bC
  obtain ⟨q, hq⟩ : ∃ q, w.heap.size = q := ⟨_, rfl⟩
  rw [hq] at bA bB bC
  obtain ⟨W0, hW0⟩ : ∃ W0, ((w.alloc (.cells #[.slice x.cA x.code.length x.cc, .slice x.fA x.foot.length x.fc] 25)).alloc (.cells #[.int .i64 (r 0), .int .i64 (r 1), .int .i64 (r 2), .int .i64 (r 3)] 27)).alloc (.cells #[.int .i64 ok, .int .i64 ov] 54) = W0 := ⟨_, rfl⟩
  rw [hW0] at bA bB bC f0
  have HF0 := Lib.hid f0
  have HbA := Lib.hid (fun W (h : Fr No W0 W) => bA.fr h (fun e => e))
  have HbB := Lib.hid (fun W (h : Fr No W0 W) => bB.fr h (fun e => e))
  have HbC := Lib.hid (fun W (h : Fr No W0 W) => bC.fr h (fun e => e))
  cases gr
  · have hgn := great_not hgr
    have hfw : x.Few := ⟨by have := hgn.1; omega, by have := hgn.2.1; omega, by have := hgn.2.2.1; omega⟩
    have HOf := Lib.hid (fun W (hW : Fr No w W) => pOf_any l A1 n1 c1 W (hl.since hW) hn1 (by omega) hv)
    obtain ⟨hinv, -⟩ := ofP_all l
    have HRun := Lib.hid (fun W S s (hW : Fr No w W) (hp : PS W S s (ofP l)) => sRun_any W (x.since hW) hfw hinv hp (ofP_vals hv) himm hr true)
    change Hid (∀ W S s (_ : Fr No w W) (_ : PS W S s (ofP l)), Calls Tryz.prog 12 #[x.agg, x.args, .agg #[.int .i64 (r 0), .int .i64 (r 1), .int .i64 (r 2), .int .i64 (r 3)], .pointer (some ⟨s, 0, none⟩), .bool true] W (OutC (runS x.right true (keysOf (chosen false x.gs x.foot)) (keysOf (chosen true x.gs x.foot)) x.gs x.code r (valP (ofP l).flatten)) W)) at HRun
    have HRun2 := Lib.hid (fun W S s k (hW : Fr No w W) (hk : k < 1000) (hp : PS W S s (putP (ofP l) k ov)) => sRun_any W (x.since hW) hfw (putP_inv hinv hk ov) hp (fun j u hj => by
      rw [putP_val hinv] at hj
      split at hj
      · injection hj with hj; rw [← hj]; exact hov
      · exact ofP_vals hv j u hj) himm hr true)
    change Hid (∀ W S s k (_ : Fr No w W) (_ : k < 1000) (_ : PS W S s (putP (ofP l) k ov)), Calls Tryz.prog 12 #[x.agg, x.args, .agg #[.int .i64 (r 0), .int .i64 (r 1), .int .i64 (r 2), .int .i64 (r 3)], .pointer (some ⟨s, 0, none⟩), .bool true] W (OutC (runS x.right true (keysOf (chosen false x.gs x.foot)) (keysOf (chosen true x.gs x.foot)) x.gs x.code r (valP (putP (ofP l) k ov).flatten)) W)) at HRun2
    have Hvals := Lib.hid (fun k => putP_val hinv (k := k) ov)
    have Hbad := Lib.hid (runS_bad (right := x.right) (asked := true) (mr := keysOf (chosen false x.gs x.foot)) (mw := keysOf (chosen true x.gs x.foot)) (gs := x.gs) (l := x.code) (r := r) (m := valP (ofP l).flatten))
    have Hgood := Lib.hid (runS_good (right := x.right) (mr := keysOf (chosen false x.gs x.foot)) (mw := keysOf (chosen true x.gs x.foot)) (gs := x.gs) (l := x.code) (r := r) (m := valP (ofP l).flatten))
    have Hfew := Lib.hid (runS_few x.right true (keysOf (chosen false x.gs x.foot)) (keysOf (chosen true x.gs x.foot)) x.gs x.code r (valP (ofP l).flatten))
    have HPut := Lib.hid (fun W S s k (hk : k < 1000) (hp : PS W S s (ofP l)) => pPut_any k hk ov hinv hp)
    have HSet := Lib.hid (fun fl W (hW : Fr No w W) (hx : x.right = true) => refSet10_any fl x.foot x.gs x.fA x.gA x.foot.length x.fc x.gs.length x.gc W (x.hf.since hW) rfl (x.hg.since hW) rfl (by
      unfold StI.right rightB at hx
      exact ((Bool.and_eq_true _ _).mp hx).1))
    obtain ⟨mr, hmr⟩ : ∃ mr, keysOf (chosen false x.gs x.foot) = mr := ⟨_, rfl⟩
    obtain ⟨mw, hmw⟩ : ∃ mw, keysOf (chosen true x.gs x.foot) = mw := ⟨_, rfl⟩
    have HSetR := Lib.hid (HSet.out false)
    have HSetW := Lib.hid (HSet.out true)
    rw [hmr] at HRun HRun2 Hbad Hgood Hfew HSetR
    rw [hmw] at HRun HRun2 Hbad Hgood Hfew HSetW
    -- another store: the same outcome
    have HRun3 : Hid (∀ W S s k (_ : Fr No w W) (_ : k < 1000) (_ : PS W S s (putP (ofP l) k ov)), (runS x.right true mr mw x.gs x.code r (valP (ofP l).flatten)).code = 0 → keysOf (runS x.right true mr mw x.gs x.code r (valP (ofP l).flatten)).rd k = false → Calls Tryz.prog 12 #[x.agg, x.args, .agg #[.int .i64 (r 0), .int .i64 (r 1), .int .i64 (r 2), .int .i64 (r 3)], .pointer (some ⟨s, 0, none⟩), .bool true] W (OutC (runS x.right true mr mw x.gs x.code r (valP (ofP l).flatten)) W)) := Lib.hid (fun W S s k hW hk hp hc hrd => by
      have h := HRun2.out W S s k hW hk hp
      rw [(Hgood.out hc).other k _ hk hrd (fun j hj => by rw [Hvals.out k j, if_neg hj])] at h
      exact h)
    have Hgd : Hid ((runS x.right true mr mw x.gs x.code r (valP (ofP l).flatten)).code = 0 → x.right = true ∧ insideS (keysOf (runS x.right true mr mw x.gs x.code r (valP (ofP l).flatten)).rd) mr = true ∧ insideS (keysOf (runS x.right true mr mw x.gs x.code r (valP (ofP l).flatten)).wt) mw = true ∧ ∀ c ∈ (runS x.right true mr mw x.gs x.code r (valP (ofP l).flatten)).ch, ∃ k : Nat, k < 1000 ∧ c.key = k ∧ keysOf (runS x.right true mr mw x.gs x.code r (valP (ofP l).flatten)).wt k = true) := Lib.hid (fun hc => ⟨(Hgood.out hc).yes, (Hgood.out hc).rd, (Hgood.out hc).wt, (Hgood.out hc).ch⟩)
    clear HRun2 Hgood Hvals HSet
    generalize runS x.right true mr mw x.gs x.code r (valP (ofP l).flatten) = po at *
    generalize x.right = xri at *
    unfold StI.agg StI.args at HGr HRun HRun3 ⊢
    generalize ofP l = P at *
    clear hgr hgn hfw hl hn1 hv hinv himm hr bA bB bC f0 hmr hmw hov
    generalize x.code.length = nc at *
    generalize x.foot.length = nf at *
    generalize x.gs.length = ng at *
    go_enter Tryz.func6, Tryz.ntmps6
    go_wp2_with fail
    refine (Hal.out _).mono ?_
    rintro e w1 ⟨rfl, f1⟩
    have ua := HbA.out _ (f1)
    have a0 := ua.cell 0
    have a1 := ua.cell 1
    simp only [List.getElem?_toArray, List.getElem?_cons_succ, List.getElem?_cons_zero] at a0 a1
    clear ua
    have F1 := Lib.hid f1
    clear f1
    go_wp2_with fail
    refine (HGr.out _ (HF0.out.trans' F1.out (fun _ _ e => e))).mono ?_
    rintro e w2 ⟨rfl, f2⟩
    have F2 := Lib.hid (F1.out.trans' f2 (fun _ _ e => e))
    clear f2 a0 a1
    go_wp2_with fail
    refine (HOf.out _ (HF0.out.trans' F2.out (fun _ _ e => e))).mono ?_
    rintro e w3 ⟨s, S, rfl, hps, hS, f3⟩
    have F3 := Lib.hid (F2.out.trans' f3 (fun _ _ e => e))
    have Hps := Lib.hid hps
    have HSge : Hid (∀ k, S k → W0.heap.size ≤ k) := Lib.hid (fun k hk => Nat.le_trans F2.out.size (hS k hk))
    have ua := HbA.out _ (F3.out)
    have a0 := ua.cell 0
    have a1 := ua.cell 1
    simp only [List.getElem?_toArray, List.getElem?_cons_succ, List.getElem?_cons_zero] at a0 a1
    clear ua
    have ub := HbB.out _ (F3.out)
    have b0 := ub.cell 0
    have b1 := ub.cell 1
    have b2 := ub.cell 2
    have b3 := ub.cell 3
    simp only [List.getElem?_toArray, List.getElem?_cons_succ, List.getElem?_cons_zero] at b0 b1 b2 b3
    clear ub
    clear f3 hps hS
    go_wp2_with fail
    refine (HRun.out _ S s (HF0.out.trans' F3.out (fun _ _ e => e)) Hps.out).mono ?_
    rintro e w4 ⟨o, rfl, hop, hos, hlow, f4⟩
    obtain ⟨u, hu⟩ : ∃ u, w4.heap.size = u := ⟨_, rfl⟩
    have f5 : Fr No w4 (w4.alloc (.cells #[.int .i64 o.p.code, .int .i64 o.p.at_, .int .i64 (o.p.r 0), .int .i64 (o.p.r 1), .int .i64 (o.p.r 2), .int .i64 (o.p.r 3), .slice o.rA o.p.rd.length o.rc, .slice o.wA o.p.wt.length o.wc, .slice o.cA o.p.ch.length o.cc] 39)) := (Fr.refl _ _).alloc _
    have bO := Bk.made w4 39 #[.int .i64 o.p.code, .int .i64 o.p.at_, .int .i64 (o.p.r 0), .int .i64 (o.p.r 1), .int .i64 (o.p.r 2), .int .i64 (o.p.r 3), .slice o.rA o.p.rd.length o.rc, .slice o.wA o.p.wt.length o.wc, .slice o.cA o.p.ch.length o.cc]
    obtain ⟨W5, hW5⟩ : ∃ W5, w4.alloc (.cells #[.int .i64 o.p.code, .int .i64 o.p.at_, .int .i64 (o.p.r 0), .int .i64 (o.p.r 1), .int .i64 (o.p.r 2), .int .i64 (o.p.r 3), .slice o.rA o.p.rd.length o.rc, .slice o.wA o.p.wt.length o.wc, .slice o.cA o.p.ch.length o.cc] 39) = W5 := ⟨_, rfl⟩
    rw [hW5] at f5 bO
    rw [hu] at bO
    have F5 := Lib.hid ((F3.out.trans' f4 (fun _ _ e => e)).trans' f5 (fun _ _ e => e))
    have HbO := Lib.hid (fun (T : Nat → Prop) W (h : Fr T W5 W) (hT : ¬ T u) => bO.fr h hT)
    have Hos := Lib.hid (hos.since f5)
    have HS5 := Lib.hid (Hps.out.fr (f4.trans' f5 (fun _ _ e => e)) (fun _ _ e => e))
    have HSu : Hid (¬ S u) := Lib.hid (fun hk => by have h1 := Hps.out.lt u hk; have h2 := f4.size; omega)
    have Hcap : Hid (∀ ad : Addr, (o.rA = some ad ∨ o.wA = some ad ∨ o.cA = some ad) → ¬ S ad.block) := Lib.hid (fun ad e hk => by have h1 := Hps.out.lt _ hk; have h2 := hlow ad e; omega)
    have Hop := Lib.hid hop
    clear hop hos hlow f4 f5 bO Hps a0 a1 b0 b1 b2 b3 HRun HOf HGr
    by_cases hcode : po.code = 0
    · obtain ⟨hri, hins1, hins2, hchs⟩ := Hgd.out hcode
      have HRun4 := Lib.hid (fun W S s k hW hk hp hrd => HRun3.out W S s k hW hk hp hcode hrd)
      have HSetR2 := Lib.hid (fun W hW => HSetR.out W hW hri)
      have HSetW2 := Lib.hid (fun W hW => HSetW.out W hW hri)
      have HX1 := Lib.hid (fun W (hW : Fr No W5 W) => refOf4_any o.p.rd o.p.rd.length o.rA o.rc W (Hos.out.rd.since hW) rfl (by rw [Hop.out]; have := Hfew.out.1; omega))
      have HX2 := Lib.hid (fun W (hW : Fr No W5 W) => refOf4_any o.p.wt o.p.wt.length o.wA o.wc W (Hos.out.wt.since hW) rfl (by rw [Hop.out]; have := Hfew.out.2.1; omega))
      have Hc0 : o.p.code = 0 := by rw [Hop.out]; exact hcode
      have Hsml : Hid (o.Small) := Lib.hid ⟨by rw [Hop.out]; have := Hfew.out.1; omega, by rw [Hop.out]; have := Hfew.out.2.1; omega, by rw [Hop.out]; have := Hfew.out.2.2; omega⟩
      have HSm := Lib.hid (fun W (ho : Otcs W W.heap.size o) (o2 : Otc) (h2 : o2.p = po) (ho2 : Otcs W W.heap.size o2) => show Calls Tryz.prog 13 #[o.agg, o2.agg] W (Has W true) from by
        have h := refSame13_any o o2 W ho ho2 Hsml.out ⟨by rw [h2, ← Hop.out]; exact Hsml.out.1, by rw [h2, ← Hop.out]; exact Hsml.out.2.1, by rw [h2, ← Hop.out]; exact Hsml.out.2.2⟩
        rw [h2, Hop.out, samePo_refl] at h
        exact h)
      have Hchl : Hid (∀ k (hk : k < o.p.ch.length), ∃ j : Nat, j < 1000 ∧ (o.p.ch[k]).key = j ∧ keysOf o.p.wt j = true) := Lib.hid (fun k hk => by
        have h := hchs (o.p.ch[k]) (by rw [← Hop.out]; exact List.getElem_mem hk)
        rw [← Hop.out] at h
        exact h)
      have Hchx := Lib.hid (fun W (hW : Fr No W5 W) k (hk : k < o.p.ch.length) => (Hos.out.ch.since hW).chg hk)
      have Hchle : o.p.ch.length ≤ 1000 := by rw [Hop.out]; exact Hfew.out.2.2
      rw [← Hop.out] at HRun4 hins1 hins2 HSm
      obtain ⟨pq, hpq⟩ : ∃ pq, po = pq := ⟨_, rfl⟩
      clear HSetR HSetW HRun3 hchs hri Hgd Hbad Hfew
      unfold Otc.agg
      rw [Hc0] at hW5 HbO ⊢
      obtain ⟨cA, hcA⟩ : ∃ cA, o.cA = cA := ⟨_, rfl⟩
      obtain ⟨rA, hrA⟩ : ∃ rA, o.rA = rA := ⟨_, rfl⟩
      obtain ⟨wA, hwA⟩ : ∃ wA, o.wA = wA := ⟨_, rfl⟩
      obtain ⟨nr, hnr⟩ : ∃ n, o.p.rd.length = n := ⟨_, rfl⟩
      obtain ⟨nw, hnw⟩ : ∃ n, o.p.wt.length = n := ⟨_, rfl⟩
      obtain ⟨nch, hnch⟩ : ∃ n, o.p.ch.length = n := ⟨_, rfl⟩
      rw [hcA, hrA, hwA, hnr, hnw, hnch] at hW5 HbO ⊢
      rw [hcA] at Hchx
      rw [hrA, hnr] at HX1
      rw [hwA, hnw] at HX2
      rw [hnch] at Hchle
      have HAG : Hid (o.agg = .agg #[.int .i64 0, .int .i64 o.p.at_, .int .i64 (o.p.r 0), .int .i64 (o.p.r 1), .int .i64 (o.p.r 2), .int .i64 (o.p.r 3), .slice rA nr o.rc, .slice wA nw o.wc, .slice cA nch o.cc]) := Lib.hid (by unfold Otc.agg; rw [Hc0, hcA, hrA, hwA, hnr, hnw, hnch])
      have Hn := Lib.hid hnch
      have HosX := Lib.hid (fun W (h : Fr S W5 W) => Otcs.mk (sl_keepS Hos.out.rd h (fun ad e => Hcap.out ad (.inl e))) (sl_keepS Hos.out.wt h (fun ad e => Hcap.out ad (.inr (.inl e)))) (sl_keepS Hos.out.ch h (fun ad e => Hcap.out ad (.inr (.inr e)))))
      clear hcA hrA hwA hnr hnw hnch Hc0 Hcap Hos Hop
      have uo := HbO.out No W5 (Fr.refl _ _) (fun e => e)
      have o0 := uo.cell 0
      have o1 := uo.cell 1
      have o2 := uo.cell 2
      have o3 := uo.cell 3
      have o4 := uo.cell 4
      have o5 := uo.cell 5
      have o6 := uo.cell 6
      have o7 := uo.cell 7
      have o8 := uo.cell 8
      simp only [List.getElem?_toArray, List.getElem?_cons_succ, List.getElem?_cons_zero] at o0 o1 o2 o3 o4 o5 o6 o7 o8
      clear uo
      go_wp2_with fail
      refine wp_region_held_drew (S := fun w' => w'.cell? ⟨u, 6, none⟩ = some (.slice rA nr o.rc) ∧ w'.cell? ⟨u, 7, none⟩ = some (.slice wA nw o.wc)) (by kernel_rfl) (⟨o6, o7⟩) (fun hHeld => ?_)
      refine any_take 55 (.pointer (some ⟨u, 6, none⟩)) (i := 0) rfl rfl (by kernel_rfl) (by kernel_rfl) (by kernel_rfl) (fun _ _ _ h => h) (by rfl) (by intro w hSw; (try dsimp only at hSw); go_simp; try with_reducible rfl) (by assumption) ?_
      simp only [Act.put, List.setIfInBounds_toArray, List.set_cons_zero, List.set_cons_succ]
      refine any_take 56 (.slice rA nr o.rc) (i := 1) rfl rfl (by kernel_rfl) (by kernel_rfl) (by kernel_rfl) (fun _ _ _ h => h) (by rfl) (by intro w hSw; (try dsimp only at hSw); go_simp; try with_reducible rfl) (by assumption) ?_
      simp only [Act.put, List.setIfInBounds_toArray, List.set_cons_zero, List.set_cons_succ]
      refine any_take 58 (.pointer (some ⟨u, 7, none⟩)) (i := 3) rfl rfl (by kernel_rfl) (by kernel_rfl) (by kernel_rfl) (fun _ _ _ h => h) (by rfl) (by intro w hSw; (try dsimp only at hSw); go_simp; try with_reducible rfl) (by assumption) ?_
      simp only [Act.put, List.setIfInBounds_toArray, List.set_cons_zero, List.set_cons_succ]
      refine any_take 59 (.slice wA nw o.wc) (i := 4) rfl rfl (by kernel_rfl) (by kernel_rfl) (by kernel_rfl) (fun _ _ _ h => h) (by rfl) (by intro w hSw; (try dsimp only at hSw); go_simp; try with_reducible rfl) (by assumption) ?_
      simp only [Act.put, List.setIfInBounds_toArray, List.set_cons_zero, List.set_cons_succ]
      refine wpAnyH_ready (rs := [2]) (by kernel_rfl) (by simp) ?_
      refine AllReadyH.cons rfl (fun K' hK => ?_) AllReadyH.nil
      go_simp
      go_at_call 20
      refine (HX1.out _ ((Fr.refl No W5).drew)).mono ?_
      rintro e' v0 ⟨g0, rfl, hb0, -, e0⟩
      have E0 := Lib.hid (((Fr.refl No W5).drew).trans' e0 (fun _ _ e => e))
      have o6x := (HbO.out (No) _ (E0.out) (fun e => e)).cell 6
      have o7x := (HbO.out (No) _ (E0.out) (fun e => e)).cell 7
      simp only [List.getElem?_toArray, List.getElem?_cons_zero, List.getElem?_cons_succ] at o6x o7x
      dsimp only
      refine hK.out _ _ (⟨o6x, o7x⟩) (fun hHeld => ?_)
      clear hK
      try simp only [Act.put, List.setIfInBounds_toArray, List.set_cons_zero, List.set_cons_succ]
      refine wpAnyH_ready (rs := [5]) (by kernel_rfl) (by simp) ?_
      refine AllReadyH.cons rfl (fun K' hK => ?_) AllReadyH.nil
      go_simp
      go_at_call 20
      refine (HX2.out _ E0.out).mono ?_
      rintro e' v1 ⟨g1, rfl, hb1, -, e1⟩
      have E1 := Lib.hid (E0.out.trans' e1 (fun _ _ e => e))
      have o6y := (HbO.out (No) _ (E1.out) (fun e => e)).cell 6
      have o7y := (HbO.out (No) _ (E1.out) (fun e => e)).cell 7
      simp only [List.getElem?_toArray, List.getElem?_cons_zero, List.getElem?_cons_succ] at o6y o7y
      dsimp only
      refine hK.out _ _ (⟨o6y, o7y⟩) (fun hHeld => ?_)
      clear hK
      try simp only [Act.put, List.setIfInBounds_toArray, List.set_cons_zero, List.set_cons_succ]
      refine any_take 13 (.pointer (some ⟨g0, 0, none⟩)) (i := 6) rfl rfl (by kernel_rfl) (by kernel_rfl) (by kernel_rfl) (fun _ _ _ h => h) (by rfl) (by intro w hSw; (try dsimp only at hSw); go_simp; try with_reducible rfl) (by assumption) ?_
      simp only [Act.put, List.setIfInBounds_toArray, List.set_cons_zero, List.set_cons_succ]
      refine any_take 14 (.pointer (some ⟨g1, 0, none⟩)) (i := 7) rfl rfl (by kernel_rfl) (by kernel_rfl) (by kernel_rfl) (fun _ _ _ h => h) (by rfl) (by intro w hSw; (try dsimp only at hSw); go_simp; try with_reducible rfl) (by assumption) ?_
      simp only [Act.put, List.setIfInBounds_toArray, List.set_cons_zero, List.set_cons_succ]
      refine wpAnyH_done (by kernel_rfl) ?_ _
      clear hHeld
      have B0 := Lib.hid (fun W (h : Fr No v1 W) => (hb0.fr e1 (fun e => e)).fr h (fun e => e))
      have B1 := Lib.hid (fun W (h : Fr No v1 W) => hb1.fr h (fun e => e))
      have HI1 := Lib.hid (fun W g2 (h0 : Fr No v1 W) h2 => by have h := refInside10_any g0 g2 _ mr W (B0.out W h0) h2; rw [hins1] at h; exact h)
      have HI2 := Lib.hid (fun W g2 (h0 : Fr No v1 W) h2 => by have h := refInside10_any g1 g2 _ mw W (B1.out W h0) h2; rw [hins2] at h; exact h)
      have HE := Lib.hid (fun W (h : Fr No v1 W) => (HF0.out.trans' F5.out (fun _ _ e => e)).trans' (E1.out.trans' h (fun _ _ e => e)) (fun _ _ e => e))
      have HG1 := Lib.hid (F5.out.trans' E1.out (fun _ _ e => e))
      clear hb0 hb1 e0 e1 o6x o7x o6y o7y o0 o1 o2 o3 o4 o5 o6 o7 o8 HX1 HX2 hins1 hins2
      have ua := HbA.out _ (HG1.out.trans' (Fr.refl No v1) (fun _ _ e => e))
      have a0 := ua.cell 0
      have a1 := ua.cell 1
      simp only [List.getElem?_toArray, List.getElem?_cons_succ, List.getElem?_cons_zero] at a0 a1
      clear ua
      go_wp2_with fail
      refine (HSetR2.out _ (HE.out _ ((Fr.refl No v1)))).mono ?_
      rintro e y1 ⟨p1, rfl, hb1, -, e1⟩
      have K1 := Lib.hid (((Fr.refl No v1)).trans' e1 (fun _ _ e => e))
      have HC1 := Lib.hid (HI1.out _ _ K1.out hb1)
      clear hb1 e1 a0 a1
      have ua := HbA.out _ (HG1.out.trans' K1.out (fun _ _ e => e))
      have a0 := ua.cell 0
      have a1 := ua.cell 1
      simp only [List.getElem?_toArray, List.getElem?_cons_succ, List.getElem?_cons_zero] at a0 a1
      clear ua
      go_wp2_with fail
      refine (HC1.out).mono ?_
      rintro e z1 ⟨rfl, rfl⟩
      clear HC1 a0 a1
      have ua := HbA.out _ (HG1.out.trans' K1.out (fun _ _ e => e))
      have a0 := ua.cell 0
      have a1 := ua.cell 1
      simp only [List.getElem?_toArray, List.getElem?_cons_succ, List.getElem?_cons_zero] at a0 a1
      clear ua
      go_wp2_with fail
      refine (HSetW2.out _ (HE.out _ (K1.out))).mono ?_
      rintro e y2 ⟨p2, rfl, hb2, -, e2⟩
      have K2 := Lib.hid ((K1.out).trans' e2 (fun _ _ e => e))
      have HC2 := Lib.hid (HI2.out _ _ K2.out hb2)
      clear hb2 e2 a0 a1
      have ua := HbA.out _ (HG1.out.trans' K2.out (fun _ _ e => e))
      have a0 := ua.cell 0
      have a1 := ua.cell 1
      simp only [List.getElem?_toArray, List.getElem?_cons_succ, List.getElem?_cons_zero] at a0 a1
      clear ua
      go_wp2_with fail
      refine (HC2.out).mono ?_
      rintro e z2 ⟨rfl, rfl⟩
      clear HC2 a0 a1
      have HL := Lib.hid (E1.out.trans' K2.out (fun _ _ e => e))
      have o8k := (HbO.out (No) _ (HL.out) (fun e => e)).cell 8
      simp only [List.getElem?_toArray, List.getElem?_cons_zero, List.getElem?_cons_succ] at o8k
      go_wp2
      go_loopw [15] (fun iv wr => ∃ i : Nat, i ≤ nch ∧ iv = .int .i64 i ∧ Hid (Fr No y2 wr)) (fun iv _ => nch - (intOf iv).toNat)
      case atStart => exact ⟨0, Nat.zero_le _, rfl, Lib.hid (Fr.refl _ _)⟩
      case round =>
        obtain ⟨i, hi2, rfl, hfr⟩ := hrel
        clear o8k
        have HM := Lib.hid (HL.out.trans' hfr.out (fun _ _ e => e))
        have HV := Lib.hid (K2.out.trans' hfr.out (fun _ _ e => e))
        have o8 := (HbO.out No _ HM.out (fun e => e)).cell 8
        simp only [List.getElem?_toArray, List.getElem?_cons_zero, List.getElem?_cons_succ] at o8
        by_cases hlt : i < nch
        · have hil : i < o.p.ch.length := by rw [Hn.out]; exact hlt
          obtain ⟨ad, rfl, -, x0, -, -⟩ := Hchx.out _ HM.out i hil
          obtain ⟨j, hj1, hj2, hj3⟩ := Hchl.out i hil
          rw [hj2] at x0
          have z0 : wr.cell? ⟨g1, j, none⟩ = some (.bool true) := by rw [(B1.out _ HV.out).cell, flags_at _ _ _ hj1, hj3]
          have q1 : (0 : Int) ≤ (j : Int) := by omega
          have q2 : (j : Int) < 1000 := by omega
          have q3 : (j : Int) ≤ 999 := by omega
          have q4 : ¬ (j : Int) < 0 := by omega
          clear hj2 hj3
          go_wp2
          go_roundw
          case rel => exact ⟨i + 1, by omega, by go_num, hfr⟩
          case measure => simp [intOf]; omega
        · have uc := HbC.out _ (F5.out.trans' HM.out (fun _ _ e => e))
          have c0 := uc.cell 0
          have c1 := uc.cell 1
          simp only [List.getElem?_toArray, List.getElem?_cons_succ, List.getElem?_cons_zero] at c0 c1
          clear uc
          by_cases k1 : 0 ≤ ok
          · by_cases k2 : ok ≤ 999
            · obtain ⟨k, rfl⟩ : ∃ n : Nat, ok = n := ⟨ok.toNat, (Int.toNat_of_nonneg k1).symm⟩
              have hk : k < 1000 := by omega
              have q1 : (0 : Int) ≤ (k : Int) := by omega
              have q2 : (k : Int) < 1000 := by omega
              have q3 : (k : Int) ≤ 999 := by omega
              have q4 : ¬ (k : Int) < 0 := by omega
              obtain ⟨b, hb⟩ : ∃ b, keysOf o.p.rd k = b := ⟨_, rfl⟩
              have z0 : wr.cell? ⟨g0, k, none⟩ = some (.bool b) := by rw [(B0.out _ HV.out).cell, flags_at _ _ _ hk, hb]
              clear k1 k2
              cases b
              · have HPt := Lib.hid (fun N => HPut.out (wr.drewN N) S s k hk (HS5.out.fr (HM.out.drewN N) (fun _ _ e => e)))
                have Hb := Lib.hid hb
                go_wp2
                go_quiet (fail)
                have HM2 := Lib.hid (HM.out.drewN nq)
                clear o8 c0 c1 z0 hb
                have uc := HbC.out _ (F5.out.trans' HM2.out (fun _ _ e => e))
                have c0 := uc.cell 0
                have c1 := uc.cell 1
                simp only [List.getElem?_toArray, List.getElem?_cons_succ, List.getElem?_cons_zero] at c0 c1
                clear uc
                go_wp2_with fail
                refine (HPt.out _).mono ?_
                rintro e w8 ⟨rfl, S2, hp2, f8, hS2⟩
                have F8 := Lib.hid ((HM2.out.weak (S' := S) (fun _ _ e => e.elim)).trans' f8 (fun _ _ e => e))
                have HFw : Hid (Fr No w w8) := Lib.hid (by
                  have h0 := HF0.out.trans' F5.out (fun _ _ e => e)
                  have h1 : Fr (fun k => w.heap.size ≤ k) w w8 := (h0.weak (fun _ _ e => e.elim)).trans' F8.out (fun k _ hk => Nat.le_trans HF0.out.size (HSge.out k hk))
                  exact ⟨h1.same, h1.size, fun i hi hn => h1.block i hi (fun e => by have e : w.heap.size ≤ i := e; omega)⟩)
                have Hp2 := Lib.hid hp2
                have HbA2 := Lib.hid (fun W (h : Fr No w8 W) => ((HbA.out W5 F5.out).fr F8.out (fun hs => by have h1 := HSge.out _ hs; have h2 := (HbA.out W0 (Fr.refl _ _)).lt; omega)).fr h (fun e => e))
                have HbB2 := Lib.hid (fun W (h : Fr No w8 W) => ((HbB.out W5 F5.out).fr F8.out (fun hs => by have h1 := HSge.out _ hs; have h2 := (HbB.out W0 (Fr.refl _ _)).lt; omega)).fr h (fun e => e))
                have HbO2 := Lib.hid (fun W (h : Fr No w8 W) => (HbO.out S w8 F8.out HSu.out).fr h (fun e => e))
                have HosY := Lib.hid (HosX.out w8 F8.out)
                have HRun5 := Lib.hid (fun W (h : Fr No w8 W) => HRun4.out W S2 s k (HFw.out.trans' h (fun _ _ e => e)) hk (Hp2.out.fr h (fun _ _ e => e)) Hb.out)
                clear hp2 f8 hS2 c0 c1 HPt
                have uas := HbA2.out _ (Fr.refl No w8)
                have as0 := uas.cell 0
                have as1 := uas.cell 1
                simp only [List.getElem?_toArray, List.getElem?_cons_succ, List.getElem?_cons_zero] at as0 as1
                clear uas
                have ubs := HbB2.out _ (Fr.refl No w8)
                have bs0 := ubs.cell 0
                have bs1 := ubs.cell 1
                have bs2 := ubs.cell 2
                have bs3 := ubs.cell 3
                simp only [List.getElem?_toArray, List.getElem?_cons_succ, List.getElem?_cons_zero] at bs0 bs1 bs2 bs3
                clear ubs
                have uos := HbO2.out _ (Fr.refl No w8)
                have os0 := uos.cell 0
                have os1 := uos.cell 1
                have os2 := uos.cell 2
                have os3 := uos.cell 3
                have os4 := uos.cell 4
                have os5 := uos.cell 5
                have os6 := uos.cell 6
                have os7 := uos.cell 7
                have os8 := uos.cell 8
                simp only [List.getElem?_toArray, List.getElem?_cons_succ, List.getElem?_cons_zero] at os0 os1 os2 os3 os4 os5 os6 os7 os8
                clear uos
                go_wp2_with fail
                refine wp_region_held_drew (S := fun w' => w'.cell? ⟨q, 0, none⟩ = some (.slice x.cA nc x.cc) ∧ w'.cell? ⟨q, 1, none⟩ = some (.slice x.fA nf x.fc) ∧ w'.cell? ⟨q + 1, 0, none⟩ = some (.int .i64 (r 0)) ∧ w'.cell? ⟨q + 1, 1, none⟩ = some (.int .i64 (r 1)) ∧ w'.cell? ⟨q + 1, 2, none⟩ = some (.int .i64 (r 2)) ∧ w'.cell? ⟨q + 1, 3, none⟩ = some (.int .i64 (r 3)) ∧ w'.cell? ⟨u, 0, none⟩ = some (.int .i64 0) ∧ w'.cell? ⟨u, 1, none⟩ = some (.int .i64 o.p.at_) ∧ w'.cell? ⟨u, 2, none⟩ = some (.int .i64 (o.p.r 0)) ∧ w'.cell? ⟨u, 3, none⟩ = some (.int .i64 (o.p.r 1)) ∧ w'.cell? ⟨u, 4, none⟩ = some (.int .i64 (o.p.r 2)) ∧ w'.cell? ⟨u, 5, none⟩ = some (.int .i64 (o.p.r 3)) ∧ w'.cell? ⟨u, 6, none⟩ = some (.slice rA nr o.rc) ∧ w'.cell? ⟨u, 7, none⟩ = some (.slice wA nw o.wc) ∧ w'.cell? ⟨u, 8, none⟩ = some (.slice cA nch o.cc)) (by kernel_rfl) (⟨as0, as1, bs0, bs1, bs2, bs3, os0, os1, os2, os3, os4, os5, os6, os7, os8⟩) (fun hHeld => ?_)
                refine any_take 126 (.agg #[.int .i64 0, .int .i64 o.p.at_, .int .i64 (o.p.r 0), .int .i64 (o.p.r 1), .int .i64 (o.p.r 2), .int .i64 (o.p.r 3), .slice rA nr o.rc, .slice wA nw o.wc, .slice cA nch o.cc]) (i := 0) rfl rfl (by kernel_rfl) (by kernel_rfl) (by kernel_rfl) (fun _ _ _ h => h) (by rfl) (by intro w hSw; (try dsimp only at hSw); go_simp; try with_reducible rfl) (by assumption) ?_
                simp only [Act.put, List.setIfInBounds_toArray, List.set_cons_zero, List.set_cons_succ]
                refine any_take 127 (.agg #[.slice x.cA nc x.cc, .slice x.fA nf x.fc]) (i := 1) rfl rfl (by kernel_rfl) (by kernel_rfl) (by kernel_rfl) (fun _ _ _ h => h) (by rfl) (by intro w hSw; (try dsimp only at hSw); go_simp; try with_reducible rfl) (by assumption) ?_
                simp only [Act.put, List.setIfInBounds_toArray, List.set_cons_zero, List.set_cons_succ]
                refine any_take 128 (.slice x.gA ng x.gc) (i := 2) rfl rfl (by kernel_rfl) (by kernel_rfl) (by kernel_rfl) (fun _ _ _ h => h) (by rfl) (by intro w hSw; (try dsimp only at hSw); go_simp; try with_reducible rfl) (by assumption) ?_
                simp only [Act.put, List.setIfInBounds_toArray, List.set_cons_zero, List.set_cons_succ]
                refine any_take 129 (.agg #[.int .i64 (r 0), .int .i64 (r 1), .int .i64 (r 2), .int .i64 (r 3)]) (i := 3) rfl rfl (by kernel_rfl) (by kernel_rfl) (by kernel_rfl) (fun _ _ _ h => h) (by rfl) (by intro w hSw; (try dsimp only at hSw); go_simp; try with_reducible rfl) (by assumption) ?_
                simp only [Act.put, List.setIfInBounds_toArray, List.set_cons_zero, List.set_cons_succ]
                refine any_take 130 (.pointer (some ⟨s, 0, none⟩)) (i := 4) rfl rfl (by kernel_rfl) (by kernel_rfl) (by kernel_rfl) (fun _ _ _ h => h) (by rfl) (by intro w hSw; (try dsimp only at hSw); go_simp; try with_reducible rfl) (by assumption) ?_
                simp only [Act.put, List.setIfInBounds_toArray, List.set_cons_zero, List.set_cons_succ]
                refine wpAnyH_ready (rs := [5]) (by kernel_rfl) (by simp) ?_
                refine AllReadyH.cons rfl (fun K' hK => ?_) AllReadyH.nil
                go_simp
                go_at_call 12
                refine (HRun5.out _ ((Fr.refl No w8).drew)).mono ?_
                rintro e' v5 ⟨o2, rfl, ho2p, hos2, -, e5⟩
                have E5 := Lib.hid (((Fr.refl No w8).drew).trans' e5 (fun _ _ e => e))
                have HSA := Lib.hid (HSm.out _ (HosY.out.since E5.out) o2 ho2p hos2)
                rw [HAG.out] at HSA
                have uat := HbA2.out _ (E5.out)
                have at0 := uat.cell 0
                have at1 := uat.cell 1
                simp only [List.getElem?_toArray, List.getElem?_cons_succ, List.getElem?_cons_zero] at at0 at1
                clear uat
                have ubt := HbB2.out _ (E5.out)
                have bt0 := ubt.cell 0
                have bt1 := ubt.cell 1
                have bt2 := ubt.cell 2
                have bt3 := ubt.cell 3
                simp only [List.getElem?_toArray, List.getElem?_cons_succ, List.getElem?_cons_zero] at bt0 bt1 bt2 bt3
                clear ubt
                have uot := HbO2.out _ (E5.out)
                have ot0 := uot.cell 0
                have ot1 := uot.cell 1
                have ot2 := uot.cell 2
                have ot3 := uot.cell 3
                have ot4 := uot.cell 4
                have ot5 := uot.cell 5
                have ot6 := uot.cell 6
                have ot7 := uot.cell 7
                have ot8 := uot.cell 8
                simp only [List.getElem?_toArray, List.getElem?_cons_succ, List.getElem?_cons_zero] at ot0 ot1 ot2 ot3 ot4 ot5 ot6 ot7 ot8
                clear uot
                dsimp only
                refine hK.out _ _ (⟨at0, at1, bt0, bt1, bt2, bt3, ot0, ot1, ot2, ot3, ot4, ot5, ot6, ot7, ot8⟩) (fun hHeld => ?_)
                clear hK
                try simp only [Act.put, List.setIfInBounds_toArray, List.set_cons_zero, List.set_cons_succ]
                refine wpAnyH_ready (rs := [6]) (by kernel_rfl) (by simp) ?_
                refine AllReadyH.cons rfl (fun K' hK => ?_) AllReadyH.nil
                go_simp
                go_at_call 13
                refine (HSA.out).mono ?_
                rintro e' v6 ⟨rfl, e6⟩
                have FZ := E5.out.trans' e6 (fun _ _ e => e)
                have uaz := HbA2.out _ (FZ)
                have az0 := uaz.cell 0
                have az1 := uaz.cell 1
                simp only [List.getElem?_toArray, List.getElem?_cons_succ, List.getElem?_cons_zero] at az0 az1
                clear uaz
                have ubz := HbB2.out _ (FZ)
                have bz0 := ubz.cell 0
                have bz1 := ubz.cell 1
                have bz2 := ubz.cell 2
                have bz3 := ubz.cell 3
                simp only [List.getElem?_toArray, List.getElem?_cons_succ, List.getElem?_cons_zero] at bz0 bz1 bz2 bz3
                clear ubz
                have uoz := HbO2.out _ (FZ)
                have oz0 := uoz.cell 0
                have oz1 := uoz.cell 1
                have oz2 := uoz.cell 2
                have oz3 := uoz.cell 3
                have oz4 := uoz.cell 4
                have oz5 := uoz.cell 5
                have oz6 := uoz.cell 6
                have oz7 := uoz.cell 7
                have oz8 := uoz.cell 8
                simp only [List.getElem?_toArray, List.getElem?_cons_succ, List.getElem?_cons_zero] at oz0 oz1 oz2 oz3 oz4 oz5 oz6 oz7 oz8
                clear uoz
                dsimp only
                refine hK.out _ _ (⟨az0, az1, bz0, bz1, bz2, bz3, oz0, oz1, oz2, oz3, oz4, oz5, oz6, oz7, oz8⟩) (fun hHeld => ?_)
                clear hK
                try simp only [Act.put, List.setIfInBounds_toArray, List.set_cons_zero, List.set_cons_succ]
                refine any_take 10 (.bool true) (i := 7) rfl rfl (by kernel_rfl) (by kernel_rfl) (by kernel_rfl) (fun _ _ _ h => h) (by rfl) (by intro w hSw; (try dsimp only at hSw); go_simp; try with_reducible rfl) (by assumption) ?_
                simp only [Act.put, List.setIfInBounds_toArray, List.set_cons_zero, List.set_cons_succ]
                refine wpAnyH_done (by kernel_rfl) ?_ _
                clear hHeld
                go_wp2
                go_ret
                exact ⟨rfl, HFw.out.trans' FZ (fun _ _ e => e)⟩
              · go_wp2
                go_quiet (fail)
                go_wp2
                go_ret
                exact ⟨rfl, (HF0.out.trans' F5.out (fun _ _ e => e)).trans' (HM.out.drewN _) (fun _ _ e => e)⟩
            · have q1 : decide (ok < 0) = false := decide_eq_false (by omega)
              have q2 : decide (ok > 999) = true := decide_eq_true (by omega)
              clear k1 k2
              go_wp2
              go_quiet (fail)
              go_wp2
              go_ret
              exact ⟨rfl, (HF0.out.trans' F5.out (fun _ _ e => e)).trans' (HM.out.drewN _) (fun _ _ e => e)⟩
          · have q1 : decide (ok < 0) = true := decide_eq_true (by omega)
            clear k1
            go_wp2
            go_quiet (fail)
            go_wp2
            go_ret
            exact ⟨rfl, (HF0.out.trans' F5.out (fun _ _ e => e)).trans' (HM.out.drewN _) (fun _ _ e => e)⟩
    · obtain ⟨e1, e2, e3, e4⟩ := Hbad.out hcode
      rw [← Hop.out] at e1 e2 e3 e4 hcode
      have hqq := eqRegs r r
      have he4 : ((List.range 4).all fun i => r i == r i) = true := by simp
      simp only [he4] at hqq
      unfold Otc.agg
      rw [e1, e2, e3, e4] at HbO hW5 ⊢
      simp only [List.length_nil] at HbO hW5 ⊢
      have e5 : (o.p.code != 0) = true := bne_iff_ne.2 hcode
      clear e1 e2 e3 e4 hcode Hgd HRun3 HSetR HSetW Hos Hop
      generalize o.p.code = cd at *
      have uo := HbO.out No W5 (Fr.refl _ _) (fun e => e)
      have o0 := uo.cell 0
      have o1 := uo.cell 1
      have o2 := uo.cell 2
      have o3 := uo.cell 3
      have o4 := uo.cell 4
      have o5 := uo.cell 5
      have o6 := uo.cell 6
      have o7 := uo.cell 7
      have o8 := uo.cell 8
      simp only [List.getElem?_toArray, List.getElem?_cons_succ, List.getElem?_cons_zero] at o0 o1 o2 o3 o4 o5 o6 o7 o8
      clear uo
      have b0 := (HbB.out _ F5.out).cell 0
      have b1 := (HbB.out _ F5.out).cell 1
      have b2 := (HbB.out _ F5.out).cell 2
      have b3 := (HbB.out _ F5.out).cell 3
      simp only [List.getElem?_toArray, List.getElem?_cons_succ, List.getElem?_cons_zero] at b0 b1 b2 b3
      go_wp2
      go_ret
      exact ⟨rfl, HF0.out.trans' F5.out (fun _ _ e => e)⟩
  · unfold StI.agg StI.args at HGr ⊢
    clear hl hn1 hv himm hr bA bB f0 hgr
    generalize x.code.length = nc at *
    generalize x.foot.length = nf at *
    generalize x.gs.length = ng at *
    go_enter Tryz.func6, Tryz.ntmps6
    go_wp2_with fail
    refine (Hal.out _).mono ?_
    rintro e w1 ⟨rfl, f1⟩
    have ua := HbA.out _ (f1)
    have a0 := ua.cell 0
    have a1 := ua.cell 1
    simp only [List.getElem?_toArray, List.getElem?_cons_succ, List.getElem?_cons_zero] at a0 a1
    clear ua
    have F1 := Lib.hid f1
    clear f1
    go_wp2_with fail
    refine (HGr.out _ (HF0.out.trans' F1.out (fun _ _ e => e))).mono ?_
    rintro e w2 ⟨rfl, f2⟩
    have F2 := Lib.hid (F1.out.trans' f2 (fun _ _ e => e))
    clear f2 a0 a1
    go_wp2
    go_ret
    exact ⟨rfl, HF0.out.trans' F2.out (fun _ _ e => e)⟩
end Go.Proofs.YthenadijiepmnaaGreat
