/- The document's own: are two catalogues the same? -/
import Derived.Test.YtbemfomiiikpoaaGreatCat12
import Derived.Test.YtbemfomiiikpoaaGreatRsm11
import Derived.Test.YtbemfomiiikpoaaGreatHand
namespace Go.Proofs.YtbemfomiiikpoaaGreat
open Go.RowKit

set_option maxRecDepth 100000 in
set_option maxHeartbeats 8000000 in
theorem refSame12_any (x y : Ctl) (w : World) (hx : Clss w x.cA x.cls) (hy : Clss w y.cA y.cls) (hf : ∀ c ∈ x.cls, c.Few) (hnm : x.cls.length ≤ 1099511627776) :
    Calls Tryz.prog 15 #[x.agg, y.agg] w (Has w (x.p.same y.p)) := by
  have Hr : Hid (x.p.same y.p = (decide (x.cls.length = y.cls.length) && (sameBr x.b y.b && (List.range x.cls.length).all fun i => (x.p.at i).same (y.p.at i)))) := Lib.hid (by simp [PCt.same, Ctl.p])
  have Hat := Lib.hid (fun i (hi : i < x.cls.length) => pct_at x hi)
  have Hbt := Lib.hid (fun i (hi : i < y.cls.length) => pct_at y hi)
  have Hx := Lib.hid (fun (W : World) (h : Fr No w W) => hx.since h)
  have Hy := Lib.hid (fun (W : World) (h : Fr No w W) => hy.since h)
  have HS1 := Lib.hid (fun i (hi : i < x.cls.length) (hj : i < y.cls.length) (W : World) (h : Fr No w W) => refSame11_any x.cls[i] y.cls[i] W ((hx.since h).all _ (List.getElem_mem hi)) ((hy.since h).all _ (List.getElem_mem hj)) (hf _ (List.getElem_mem hi)))
  generalize x.p.same y.p = r at *
  generalize x.p.at = pa at *
  generalize y.p.at = pb at *
  obtain ⟨A, l1, c, b⟩ := x
  obtain ⟨B, l2, d, e⟩ := y
  unfold Ctl.agg Ctl.arr brA
  simp only at *
  have q := eqBr12 b e
  unfold br16 at q
  obtain ⟨n, hn⟩ : ∃ n, Hid (n = l1.length) := ⟨_, Lib.hid rfl⟩
  obtain ⟨m, hm⟩ : ∃ m, Hid (m = l2.length) := ⟨_, Lib.hid rfl⟩
  rw [← hn.out, ← hm.out] at Hr
  rw [← hn.out] at hnm
  rw [← hn.out, ← hm.out]
  generalize sameBr b e = sb at *
  obtain ⟨W, hW⟩ : ∃ W, Hid (W = (w.alloc (.cells #[.slice A n c, .int .i64 (b 0), .int .i64 (b 1), .int .i64 (b 2), .int .i64 (b 3), .int .i64 (b 4), .int .i64 (b 5), .int .i64 (b 6), .int .i64 (b 7), .int .i64 (b 8), .int .i64 (b 9), .int .i64 (b 10), .int .i64 (b 11), .int .i64 (b 12), .int .i64 (b 13), .int .i64 (b 14), .int .i64 (b 15)] 26)).alloc (.cells #[.slice B m d, .int .i64 (e 0), .int .i64 (e 1), .int .i64 (e 2), .int .i64 (e 3), .int .i64 (e 4), .int .i64 (e 5), .int .i64 (e 6), .int .i64 (e 7), .int .i64 (e 8), .int .i64 (e 9), .int .i64 (e 10), .int .i64 (e 11), .int .i64 (e 12), .int .i64 (e 13), .int .i64 (e 14), .int .i64 (e 15)] 26)) := ⟨_, Lib.hid rfl⟩
  have hF : Fr No w W := by rw [hW.out]; exact ((Fr.refl _ _).alloc _).alloc _
  have hP : Bk W w.heap.size 26 #[.slice A n c, .int .i64 (b 0), .int .i64 (b 1), .int .i64 (b 2), .int .i64 (b 3), .int .i64 (b 4), .int .i64 (b 5), .int .i64 (b 6), .int .i64 (b 7), .int .i64 (b 8), .int .i64 (b 9), .int .i64 (b 10), .int .i64 (b 11), .int .i64 (b 12), .int .i64 (b 13), .int .i64 (b 14), .int .i64 (b 15)] := by rw [hW.out]; exact (Bk.made w _ _).fr ((Fr.refl No _).alloc _) (fun e => e)
  have hQ : Bk W (w.heap.size + 1) 26 #[.slice B m d, .int .i64 (e 0), .int .i64 (e 1), .int .i64 (e 2), .int .i64 (e 3), .int .i64 (e 4), .int .i64 (e 5), .int .i64 (e 6), .int .i64 (e 7), .int .i64 (e 8), .int .i64 (e 9), .int .i64 (e 10), .int .i64 (e 11), .int .i64 (e 12), .int .i64 (e 13), .int .i64 (e 14), .int .i64 (e 15)] := by
    rw [hW.out]
    have h := Bk.made (w.alloc (.cells #[.slice A n c, .int .i64 (b 0), .int .i64 (b 1), .int .i64 (b 2), .int .i64 (b 3), .int .i64 (b 4), .int .i64 (b 5), .int .i64 (b 6), .int .i64 (b 7), .int .i64 (b 8), .int .i64 (b 9), .int .i64 (b 10), .int .i64 (b 11), .int .i64 (b 12), .int .i64 (b 13), .int .i64 (b 14), .int .i64 (b 15)] 26)) 26 #[.slice B m d, .int .i64 (e 0), .int .i64 (e 1), .int .i64 (e 2), .int .i64 (e 3), .int .i64 (e 4), .int .i64 (e 5), .int .i64 (e 6), .int .i64 (e 7), .int .i64 (e 8), .int .i64 (e 9), .int .i64 (e 10), .int .i64 (e 11), .int .i64 (e 12), .int .i64 (e 13), .int .i64 (e 14), .int .i64 (e 15)]
    simpa using h
  have hwe : (w.alloc (.cells #[.slice A n c, .int .i64 (b 0), .int .i64 (b 1), .int .i64 (b 2), .int .i64 (b 3), .int .i64 (b 4), .int .i64 (b 5), .int .i64 (b 6), .int .i64 (b 7), .int .i64 (b 8), .int .i64 (b 9), .int .i64 (b 10), .int .i64 (b 11), .int .i64 (b 12), .int .i64 (b 13), .int .i64 (b 14), .int .i64 (b 15)] 26)).alloc (.cells #[.slice B m d, .int .i64 (e 0), .int .i64 (e 1), .int .i64 (e 2), .int .i64 (e 3), .int .i64 (e 4), .int .i64 (e 5), .int .i64 (e 6), .int .i64 (e 7), .int .i64 (e 8), .int .i64 (e 9), .int .i64 (e 10), .int .i64 (e 11), .int .i64 (e 12), .int .i64 (e 13), .int .i64 (e 14), .int .i64 (e 15)] 26) = W := hW.out.symm
  have x0 : W.cell? ⟨w.heap.size, 0, none⟩ = some (.slice A n c) := hP.cell 0
  have y0 : W.cell? ⟨w.heap.size + 1, 0, none⟩ = some (.slice B m d) := hQ.cell 0
  have lp := hP.lt
  have lq := hQ.lt
  have HF := Lib.hid hF
  clear hx hy hf hW hF
  by_cases hnm2 : n = m
  case neg =>
    have hr : r = false := by rw [Hr.out, decide_eq_false hnm2]; rfl
    have d0 : ((n : Int) != (m : Int)) = true := by rw [bne_iff_ne]; omega
    clear hP hQ q
    go_enter Tryz.func15, Tryz.ntmps15
    go_wp2
    go_ret
    exact ⟨by first | (rw [hr]; rfl) | rfl, HF.out⟩
  subst hnm2
  have d0 : ((n : Int) != (n : Int)) = false := by simp
  cases sb
  · have hr : r = false := by rw [Hr.out]; simp
    have p0 : W.cell? ⟨w.heap.size, 1, none⟩ = some (.int .i64 (b 0)) := hP.cell 1
    have q0 : W.cell? ⟨w.heap.size + 1, 1, none⟩ = some (.int .i64 (e 0)) := hQ.cell 1
    have p1 : W.cell? ⟨w.heap.size, 2, none⟩ = some (.int .i64 (b 1)) := hP.cell 2
    have q1 : W.cell? ⟨w.heap.size + 1, 2, none⟩ = some (.int .i64 (e 1)) := hQ.cell 2
    have p2 : W.cell? ⟨w.heap.size, 3, none⟩ = some (.int .i64 (b 2)) := hP.cell 3
    have q2 : W.cell? ⟨w.heap.size + 1, 3, none⟩ = some (.int .i64 (e 2)) := hQ.cell 3
    have p3 : W.cell? ⟨w.heap.size, 4, none⟩ = some (.int .i64 (b 3)) := hP.cell 4
    have q3 : W.cell? ⟨w.heap.size + 1, 4, none⟩ = some (.int .i64 (e 3)) := hQ.cell 4
    have p4 : W.cell? ⟨w.heap.size, 5, none⟩ = some (.int .i64 (b 4)) := hP.cell 5
    have q4 : W.cell? ⟨w.heap.size + 1, 5, none⟩ = some (.int .i64 (e 4)) := hQ.cell 5
    have p5 : W.cell? ⟨w.heap.size, 6, none⟩ = some (.int .i64 (b 5)) := hP.cell 6
    have q5 : W.cell? ⟨w.heap.size + 1, 6, none⟩ = some (.int .i64 (e 5)) := hQ.cell 6
    have p6 : W.cell? ⟨w.heap.size, 7, none⟩ = some (.int .i64 (b 6)) := hP.cell 7
    have q6 : W.cell? ⟨w.heap.size + 1, 7, none⟩ = some (.int .i64 (e 6)) := hQ.cell 7
    have p7 : W.cell? ⟨w.heap.size, 8, none⟩ = some (.int .i64 (b 7)) := hP.cell 8
    have q7 : W.cell? ⟨w.heap.size + 1, 8, none⟩ = some (.int .i64 (e 7)) := hQ.cell 8
    have p8 : W.cell? ⟨w.heap.size, 9, none⟩ = some (.int .i64 (b 8)) := hP.cell 9
    have q8 : W.cell? ⟨w.heap.size + 1, 9, none⟩ = some (.int .i64 (e 8)) := hQ.cell 9
    have p9 : W.cell? ⟨w.heap.size, 10, none⟩ = some (.int .i64 (b 9)) := hP.cell 10
    have q9 : W.cell? ⟨w.heap.size + 1, 10, none⟩ = some (.int .i64 (e 9)) := hQ.cell 10
    have p10 : W.cell? ⟨w.heap.size, 11, none⟩ = some (.int .i64 (b 10)) := hP.cell 11
    have q10 : W.cell? ⟨w.heap.size + 1, 11, none⟩ = some (.int .i64 (e 10)) := hQ.cell 11
    have p11 : W.cell? ⟨w.heap.size, 12, none⟩ = some (.int .i64 (b 11)) := hP.cell 12
    have q11 : W.cell? ⟨w.heap.size + 1, 12, none⟩ = some (.int .i64 (e 11)) := hQ.cell 12
    have p12 : W.cell? ⟨w.heap.size, 13, none⟩ = some (.int .i64 (b 12)) := hP.cell 13
    have q12 : W.cell? ⟨w.heap.size + 1, 13, none⟩ = some (.int .i64 (e 12)) := hQ.cell 13
    have p13 : W.cell? ⟨w.heap.size, 14, none⟩ = some (.int .i64 (b 13)) := hP.cell 14
    have q13 : W.cell? ⟨w.heap.size + 1, 14, none⟩ = some (.int .i64 (e 13)) := hQ.cell 14
    have p14 : W.cell? ⟨w.heap.size, 15, none⟩ = some (.int .i64 (b 14)) := hP.cell 15
    have q14 : W.cell? ⟨w.heap.size + 1, 15, none⟩ = some (.int .i64 (e 14)) := hQ.cell 15
    have p15 : W.cell? ⟨w.heap.size, 16, none⟩ = some (.int .i64 (b 15)) := hP.cell 16
    have q15 : W.cell? ⟨w.heap.size + 1, 16, none⟩ = some (.int .i64 (e 15)) := hQ.cell 16
    clear hP hQ
    go_enter Tryz.func15, Tryz.ntmps15
    go_wp2
    go_ret
    exact ⟨by first | (rw [hr]; rfl) | rfl, HF.out⟩
  · have HR : Hid (r = (List.range n).all fun i => (pa i).same (pb i)) := Lib.hid (by rw [Hr.out]; simp)
    have p0 : W.cell? ⟨w.heap.size, 1, none⟩ = some (.int .i64 (b 0)) := hP.cell 1
    have q0 : W.cell? ⟨w.heap.size + 1, 1, none⟩ = some (.int .i64 (e 0)) := hQ.cell 1
    have p1 : W.cell? ⟨w.heap.size, 2, none⟩ = some (.int .i64 (b 1)) := hP.cell 2
    have q1 : W.cell? ⟨w.heap.size + 1, 2, none⟩ = some (.int .i64 (e 1)) := hQ.cell 2
    have p2 : W.cell? ⟨w.heap.size, 3, none⟩ = some (.int .i64 (b 2)) := hP.cell 3
    have q2 : W.cell? ⟨w.heap.size + 1, 3, none⟩ = some (.int .i64 (e 2)) := hQ.cell 3
    have p3 : W.cell? ⟨w.heap.size, 4, none⟩ = some (.int .i64 (b 3)) := hP.cell 4
    have q3 : W.cell? ⟨w.heap.size + 1, 4, none⟩ = some (.int .i64 (e 3)) := hQ.cell 4
    have p4 : W.cell? ⟨w.heap.size, 5, none⟩ = some (.int .i64 (b 4)) := hP.cell 5
    have q4 : W.cell? ⟨w.heap.size + 1, 5, none⟩ = some (.int .i64 (e 4)) := hQ.cell 5
    have p5 : W.cell? ⟨w.heap.size, 6, none⟩ = some (.int .i64 (b 5)) := hP.cell 6
    have q5 : W.cell? ⟨w.heap.size + 1, 6, none⟩ = some (.int .i64 (e 5)) := hQ.cell 6
    have p6 : W.cell? ⟨w.heap.size, 7, none⟩ = some (.int .i64 (b 6)) := hP.cell 7
    have q6 : W.cell? ⟨w.heap.size + 1, 7, none⟩ = some (.int .i64 (e 6)) := hQ.cell 7
    have p7 : W.cell? ⟨w.heap.size, 8, none⟩ = some (.int .i64 (b 7)) := hP.cell 8
    have q7 : W.cell? ⟨w.heap.size + 1, 8, none⟩ = some (.int .i64 (e 7)) := hQ.cell 8
    have p8 : W.cell? ⟨w.heap.size, 9, none⟩ = some (.int .i64 (b 8)) := hP.cell 9
    have q8 : W.cell? ⟨w.heap.size + 1, 9, none⟩ = some (.int .i64 (e 8)) := hQ.cell 9
    have p9 : W.cell? ⟨w.heap.size, 10, none⟩ = some (.int .i64 (b 9)) := hP.cell 10
    have q9 : W.cell? ⟨w.heap.size + 1, 10, none⟩ = some (.int .i64 (e 9)) := hQ.cell 10
    have p10 : W.cell? ⟨w.heap.size, 11, none⟩ = some (.int .i64 (b 10)) := hP.cell 11
    have q10 : W.cell? ⟨w.heap.size + 1, 11, none⟩ = some (.int .i64 (e 10)) := hQ.cell 11
    have p11 : W.cell? ⟨w.heap.size, 12, none⟩ = some (.int .i64 (b 11)) := hP.cell 12
    have q11 : W.cell? ⟨w.heap.size + 1, 12, none⟩ = some (.int .i64 (e 11)) := hQ.cell 12
    have p12 : W.cell? ⟨w.heap.size, 13, none⟩ = some (.int .i64 (b 12)) := hP.cell 13
    have q12 : W.cell? ⟨w.heap.size + 1, 13, none⟩ = some (.int .i64 (e 12)) := hQ.cell 13
    have p13 : W.cell? ⟨w.heap.size, 14, none⟩ = some (.int .i64 (b 13)) := hP.cell 14
    have q13 : W.cell? ⟨w.heap.size + 1, 14, none⟩ = some (.int .i64 (e 13)) := hQ.cell 14
    have p14 : W.cell? ⟨w.heap.size, 15, none⟩ = some (.int .i64 (b 14)) := hP.cell 15
    have q14 : W.cell? ⟨w.heap.size + 1, 15, none⟩ = some (.int .i64 (e 14)) := hQ.cell 15
    have p15 : W.cell? ⟨w.heap.size, 16, none⟩ = some (.int .i64 (b 15)) := hP.cell 16
    have q15 : W.cell? ⟨w.heap.size + 1, 16, none⟩ = some (.int .i64 (e 15)) := hQ.cell 16
    have HP := Lib.hid hP
    have HQ := Lib.hid hQ
    clear hP hQ Hr
    go_enter Tryz.func15, Tryz.ntmps15
    go_wp2
    clear hwe q p0 p1 p2 p3 p4 p5 p6 p7 p8 p9 p10 p11 p12 p13 p14 p15 q0 q1 q2 q3 q4 q5 q6 q7 q8 q9 q10 q11 q12 q13 q14 q15 x0 y0
    obtain ⟨P, hPe⟩ : ∃ P, Hid (P = w.heap.size) := ⟨_, Lib.hid rfl⟩
    obtain ⟨Q, hQe⟩ : ∃ Q, Hid (Q = w.heap.size + 1) := ⟨_, Lib.hid rfl⟩
    rw [← hQe.out] at HQ lq ⊢
    rw [← hPe.out] at HP lp ⊢
    go_loopw [5] (fun iv wr => ∃ k : Nat, k ≤ n ∧ iv = .int .i64 (k : Int) ∧ Hid (((List.range k).all fun i => (pa i).same (pb i)) = true) ∧ Hid (Fr No W wr)) (fun iv _ => n - (intOf iv).toNat)
    case atStart => exact ⟨0, Nat.zero_le _, rfl, Lib.hid rfl, Lib.hid (Fr.refl _ _)⟩
    case round =>
      obtain ⟨k, hk, rfl, hpre, hg⟩ := hrel
      have hwr := HF.out.trans' hg.out (fun _ _ e => e)
      have x0 : wr.cell? ⟨P, 0, none⟩ = some (.slice A n c) := (HP.out.fr hg.out (fun e => e)).cell 0
      have y0 : wr.cell? ⟨Q, 0, none⟩ = some (.slice B n d) := (HQ.out.fr hg.out (fun e => e)).cell 0
      have hlp : P < wr.heap.size := Nat.lt_of_lt_of_le lp hg.out.size
      have hlq : Q < wr.heap.size := Nat.lt_of_lt_of_le lq hg.out.size
      by_cases hlt : k < n
      · have hkl : k < l1.length := by rw [← hn.out]; exact hlt
        have hkm : k < l2.length := by rw [← hm.out]; exact hlt
        obtain ⟨ad, e1', had, c0, c1, c2, c3, c4⟩ := (Hx.out wr hwr).sl.cls (k := k) hkl
        obtain ⟨ae, e2', hae, e0, e1, e2, e3, e4⟩ := (Hy.out wr hwr).sl.cls (k := k) hkm
        have HC := Lib.hid (fun (V : World) (h : Fr No wr V) => HS1.out k hkl hkm V (hwr.trans' h (fun _ _ e => e)))
        have Hp1 : Hid ((pa k).same (pb k) = l1[k].p.same l2[k].p) := Lib.hid (by rw [Hat.out k hkl, Hbt.out k hkm])
        obtain ⟨s, hs⟩ : ∃ s, Hid (l1[k].p.same l2[k].p = s) := ⟨_, Lib.hid rfl⟩
        rw [hs.out] at HC Hp1
        generalize l1[k] = X at *
        generalize l2[k] = Y at *
        obtain ⟨xn, xa, xs, xsL, xsc, xu, xuL, xuc, xr⟩ := X
        obtain ⟨yn, ya, ys, ysL, ysc, yu, yuL, yuc, yr⟩ := Y
        unfold Cls.agg at HC
        dsimp only at c0 c1 c2 c3 c4 e0 e1 e2 e3 e4 HC
        clear hs
        generalize xsL.length = xsl at *
        generalize xuL.length = xul at *
        generalize ysL.length = ysl at *
        generalize yuL.length = yul at *
        subst e1' e2'
        have HS : Hid (∀ w', Fr No wr w' → w'.cell? ⟨P, 0, none⟩ = some (.slice (some ad) n c) ∧ w'.cell? ⟨Q, 0, none⟩ = some (.slice (some ae) n d) ∧ w'.cell? (ad.add (k * 5)) = some (.string xn) ∧ w'.cell? ⟨(ad.add (k * 5)).block, (ad.add (k * 5)).off + 1, none⟩ = some (.int .i64 xa) ∧ w'.cell? ⟨(ad.add (k * 5)).block, (ad.add (k * 5)).off + 2, none⟩ = some (.slice xs xsl xsc) ∧ w'.cell? ⟨(ad.add (k * 5)).block, (ad.add (k * 5)).off + 3, none⟩ = some (.slice xu xul xuc) ∧ w'.cell? ⟨(ad.add (k * 5)).block, (ad.add (k * 5)).off + 4, none⟩ = some (.bool xr) ∧ w'.cell? (ae.add (k * 5)) = some (.string yn) ∧ w'.cell? ⟨(ae.add (k * 5)).block, (ae.add (k * 5)).off + 1, none⟩ = some (.int .i64 ya) ∧ w'.cell? ⟨(ae.add (k * 5)).block, (ae.add (k * 5)).off + 2, none⟩ = some (.slice ys ysl ysc) ∧ w'.cell? ⟨(ae.add (k * 5)).block, (ae.add (k * 5)).off + 3, none⟩ = some (.slice yu yul yuc) ∧ w'.cell? ⟨(ae.add (k * 5)).block, (ae.add (k * 5)).off + 4, none⟩ = some (.bool yr)) := Lib.hid (fun w' h => ⟨(h.cell (p := ⟨P, 0, none⟩) hlp (fun e => e)).trans x0, (h.cell (p := ⟨Q, 0, none⟩) hlq (fun e => e)).trans y0, (h.cell (p := ad.add (k * 5)) (by rw [block_add]; exact had) (fun e => e)).trans c0, (h.cell (p := ⟨(ad.add (k * 5)).block, (ad.add (k * 5)).off + 1, none⟩) (by show (ad.add (k * 5)).block < _; rw [block_add]; exact had) (fun e => e)).trans c1, (h.cell (p := ⟨(ad.add (k * 5)).block, (ad.add (k * 5)).off + 2, none⟩) (by show (ad.add (k * 5)).block < _; rw [block_add]; exact had) (fun e => e)).trans c2, (h.cell (p := ⟨(ad.add (k * 5)).block, (ad.add (k * 5)).off + 3, none⟩) (by show (ad.add (k * 5)).block < _; rw [block_add]; exact had) (fun e => e)).trans c3, (h.cell (p := ⟨(ad.add (k * 5)).block, (ad.add (k * 5)).off + 4, none⟩) (by show (ad.add (k * 5)).block < _; rw [block_add]; exact had) (fun e => e)).trans c4, (h.cell (p := ae.add (k * 5)) (by rw [block_add]; exact hae) (fun e => e)).trans e0, (h.cell (p := ⟨(ae.add (k * 5)).block, (ae.add (k * 5)).off + 1, none⟩) (by show (ae.add (k * 5)).block < _; rw [block_add]; exact hae) (fun e => e)).trans e1, (h.cell (p := ⟨(ae.add (k * 5)).block, (ae.add (k * 5)).off + 2, none⟩) (by show (ae.add (k * 5)).block < _; rw [block_add]; exact hae) (fun e => e)).trans e2, (h.cell (p := ⟨(ae.add (k * 5)).block, (ae.add (k * 5)).off + 3, none⟩) (by show (ae.add (k * 5)).block < _; rw [block_add]; exact hae) (fun e => e)).trans e3, (h.cell (p := ⟨(ae.add (k * 5)).block, (ae.add (k * 5)).off + 4, none⟩) (by show (ae.add (k * 5)).block < _; rw [block_add]; exact hae) (fun e => e)).trans e4⟩)
        have i1 : ((k : Nat) : Int) < (n : Int) := by omega
        have Hwr := Lib.hid hwr
        clear c0 c1 c2 c3 c4 e0 e1 e2 e3 e4 hwr
        cases s
        · have hr : r = false := by rw [HR.out]; exact range_all_not _ hlt Hp1.out
          go_wp2_with fail
          refine wp_region_held_drew (S := fun w' => w'.cell? ⟨P, 0, none⟩ = some (.slice (some ad) n c) ∧ w'.cell? ⟨Q, 0, none⟩ = some (.slice (some ae) n d) ∧ w'.cell? (ad.add (k * 5)) = some (.string xn) ∧ w'.cell? ⟨(ad.add (k * 5)).block, (ad.add (k * 5)).off + 1, none⟩ = some (.int .i64 xa) ∧ w'.cell? ⟨(ad.add (k * 5)).block, (ad.add (k * 5)).off + 2, none⟩ = some (.slice xs xsl xsc) ∧ w'.cell? ⟨(ad.add (k * 5)).block, (ad.add (k * 5)).off + 3, none⟩ = some (.slice xu xul xuc) ∧ w'.cell? ⟨(ad.add (k * 5)).block, (ad.add (k * 5)).off + 4, none⟩ = some (.bool xr) ∧ w'.cell? (ae.add (k * 5)) = some (.string yn) ∧ w'.cell? ⟨(ae.add (k * 5)).block, (ae.add (k * 5)).off + 1, none⟩ = some (.int .i64 ya) ∧ w'.cell? ⟨(ae.add (k * 5)).block, (ae.add (k * 5)).off + 2, none⟩ = some (.slice ys ysl ysc) ∧ w'.cell? ⟨(ae.add (k * 5)).block, (ae.add (k * 5)).off + 3, none⟩ = some (.slice yu yul yuc) ∧ w'.cell? ⟨(ae.add (k * 5)).block, (ae.add (k * 5)).off + 4, none⟩ = some (.bool yr)) (by kernel_rfl) (HS.out _ ((Fr.refl No wr).drew)) (fun hHeld => ?_)
          refine any_take 27 (.pointer (some ⟨P, 0, none⟩)) (i := 0) rfl rfl (by kernel_rfl) (by kernel_rfl) (by kernel_rfl) (fun _ _ _ h => h) (by rfl) (by intro w hSw; (try dsimp only at hSw); go_simp; try with_reducible rfl) (by assumption) ?_
          simp only [Act.put, List.setIfInBounds_toArray, List.set_cons_zero, List.set_cons_succ]
          refine any_take 28 (.slice (some ad) n c) (i := 1) rfl rfl (by kernel_rfl) (by kernel_rfl) (by kernel_rfl) (fun _ _ _ h => h) (by rfl) (by intro w hSw; (try dsimp only at hSw); go_simp; try with_reducible rfl) (by assumption) ?_
          simp only [Act.put, List.setIfInBounds_toArray, List.set_cons_zero, List.set_cons_succ]
          refine any_take 29 (.int .i64 k) (i := 2) rfl rfl (by kernel_rfl) (by kernel_rfl) (by kernel_rfl) (fun _ _ _ h => h) (by rfl) (by intro w hSw; (try dsimp only at hSw); go_simp; try with_reducible rfl) (by assumption) ?_
          simp only [Act.put, List.setIfInBounds_toArray, List.set_cons_zero, List.set_cons_succ]
          refine any_take 30 (.pointer (some (ad.add (k * 5)))) (i := 3) rfl rfl (by kernel_rfl) (by kernel_rfl) (by kernel_rfl) (fun _ _ _ h => h) (by rfl) (by intro w hSw; (try dsimp only at hSw); go_simp; try with_reducible rfl) (by assumption) ?_
          simp only [Act.put, List.setIfInBounds_toArray, List.set_cons_zero, List.set_cons_succ]
          refine any_take 31 (.agg #[.string xn, .int .i64 xa, .slice xs xsl xsc, .slice xu xul xuc, .bool xr]) (i := 4) rfl rfl (by kernel_rfl) (by kernel_rfl) (by kernel_rfl) (fun _ _ _ h => h) (by rfl) (by intro w hSw; (try dsimp only at hSw); go_simp; try with_reducible rfl) (by assumption) ?_
          simp only [Act.put, List.setIfInBounds_toArray, List.set_cons_zero, List.set_cons_succ]
          refine any_take 32 (.pointer (some ⟨Q, 0, none⟩)) (i := 5) rfl rfl (by kernel_rfl) (by kernel_rfl) (by kernel_rfl) (fun _ _ _ h => h) (by rfl) (by intro w hSw; (try dsimp only at hSw); go_simp; try with_reducible rfl) (by assumption) ?_
          simp only [Act.put, List.setIfInBounds_toArray, List.set_cons_zero, List.set_cons_succ]
          refine any_take 33 (.slice (some ae) n d) (i := 6) rfl rfl (by kernel_rfl) (by kernel_rfl) (by kernel_rfl) (fun _ _ _ h => h) (by rfl) (by intro w hSw; (try dsimp only at hSw); go_simp; try with_reducible rfl) (by assumption) ?_
          simp only [Act.put, List.setIfInBounds_toArray, List.set_cons_zero, List.set_cons_succ]
          refine any_take 34 (.int .i64 k) (i := 7) rfl rfl (by kernel_rfl) (by kernel_rfl) (by kernel_rfl) (fun _ _ _ h => h) (by rfl) (by intro w hSw; (try dsimp only at hSw); go_simp; try with_reducible rfl) (by assumption) ?_
          simp only [Act.put, List.setIfInBounds_toArray, List.set_cons_zero, List.set_cons_succ]
          refine any_take 35 (.pointer (some (ae.add (k * 5)))) (i := 8) rfl rfl (by kernel_rfl) (by kernel_rfl) (by kernel_rfl) (fun _ _ _ h => h) (by rfl) (by intro w hSw; (try dsimp only at hSw); go_simp; try with_reducible rfl) (by assumption) ?_
          simp only [Act.put, List.setIfInBounds_toArray, List.set_cons_zero, List.set_cons_succ]
          refine any_take 36 (.agg #[.string yn, .int .i64 ya, .slice ys ysl ysc, .slice yu yul yuc, .bool yr]) (i := 9) rfl rfl (by kernel_rfl) (by kernel_rfl) (by kernel_rfl) (fun _ _ _ h => h) (by rfl) (by intro w hSw; (try dsimp only at hSw); go_simp; try with_reducible rfl) (by assumption) ?_
          simp only [Act.put, List.setIfInBounds_toArray, List.set_cons_zero, List.set_cons_succ]
          refine wpAnyH_ready (rs := [10]) (by kernel_rfl) (by simp) ?_
          refine AllReadyH.cons rfl (fun K' hK => ?_) AllReadyH.nil
          go_simp
          go_at_call 31
          refine (HC.out _ ((Fr.refl No wr).drew)).mono ?_
          rintro e' w1 ⟨rfl, f1⟩
          have F1 : Fr No wr w1 := ((Fr.refl No wr).drew).then0 f1 (fun _ h => h.elim)
          have hFS := HS.out w1 F1
          dsimp only
          refine hK.out _ _ (hFS) (fun hHeld => ?_)
          clear hK
          try simp only [Act.put, List.setIfInBounds_toArray, List.set_cons_zero, List.set_cons_succ]
          refine any_take 38 (.bool true) (i := 11) rfl rfl (by kernel_rfl) (by kernel_rfl) (by kernel_rfl) (fun _ _ _ h => h) (by rfl) (by intro w hSw; (try dsimp only at hSw); go_simp; try with_reducible rfl) (by assumption) ?_
          simp only [Act.put, List.setIfInBounds_toArray, List.set_cons_zero, List.set_cons_succ]
          refine wpAnyH_done (by kernel_rfl) ?_ _
          clear hHeld
          go_wp2
          go_ret
          exact ⟨by first | (rw [hr]; rfl) | rfl, Hwr.out.trans' F1 (fun _ _ e => e)⟩
        · have HN : Hid (((List.range (k + 1)).all fun i => (pa i).same (pb i)) = true) := Lib.hid (by rw [range_all_snoc, hpre.out, Hp1.out]; rfl)
          go_wp2_with fail
          refine wp_region_held_drew (S := fun w' => w'.cell? ⟨P, 0, none⟩ = some (.slice (some ad) n c) ∧ w'.cell? ⟨Q, 0, none⟩ = some (.slice (some ae) n d) ∧ w'.cell? (ad.add (k * 5)) = some (.string xn) ∧ w'.cell? ⟨(ad.add (k * 5)).block, (ad.add (k * 5)).off + 1, none⟩ = some (.int .i64 xa) ∧ w'.cell? ⟨(ad.add (k * 5)).block, (ad.add (k * 5)).off + 2, none⟩ = some (.slice xs xsl xsc) ∧ w'.cell? ⟨(ad.add (k * 5)).block, (ad.add (k * 5)).off + 3, none⟩ = some (.slice xu xul xuc) ∧ w'.cell? ⟨(ad.add (k * 5)).block, (ad.add (k * 5)).off + 4, none⟩ = some (.bool xr) ∧ w'.cell? (ae.add (k * 5)) = some (.string yn) ∧ w'.cell? ⟨(ae.add (k * 5)).block, (ae.add (k * 5)).off + 1, none⟩ = some (.int .i64 ya) ∧ w'.cell? ⟨(ae.add (k * 5)).block, (ae.add (k * 5)).off + 2, none⟩ = some (.slice ys ysl ysc) ∧ w'.cell? ⟨(ae.add (k * 5)).block, (ae.add (k * 5)).off + 3, none⟩ = some (.slice yu yul yuc) ∧ w'.cell? ⟨(ae.add (k * 5)).block, (ae.add (k * 5)).off + 4, none⟩ = some (.bool yr)) (by kernel_rfl) (HS.out _ ((Fr.refl No wr).drew)) (fun hHeld => ?_)
          refine any_take 27 (.pointer (some ⟨P, 0, none⟩)) (i := 0) rfl rfl (by kernel_rfl) (by kernel_rfl) (by kernel_rfl) (fun _ _ _ h => h) (by rfl) (by intro w hSw; (try dsimp only at hSw); go_simp; try with_reducible rfl) (by assumption) ?_
          simp only [Act.put, List.setIfInBounds_toArray, List.set_cons_zero, List.set_cons_succ]
          refine any_take 28 (.slice (some ad) n c) (i := 1) rfl rfl (by kernel_rfl) (by kernel_rfl) (by kernel_rfl) (fun _ _ _ h => h) (by rfl) (by intro w hSw; (try dsimp only at hSw); go_simp; try with_reducible rfl) (by assumption) ?_
          simp only [Act.put, List.setIfInBounds_toArray, List.set_cons_zero, List.set_cons_succ]
          refine any_take 29 (.int .i64 k) (i := 2) rfl rfl (by kernel_rfl) (by kernel_rfl) (by kernel_rfl) (fun _ _ _ h => h) (by rfl) (by intro w hSw; (try dsimp only at hSw); go_simp; try with_reducible rfl) (by assumption) ?_
          simp only [Act.put, List.setIfInBounds_toArray, List.set_cons_zero, List.set_cons_succ]
          refine any_take 30 (.pointer (some (ad.add (k * 5)))) (i := 3) rfl rfl (by kernel_rfl) (by kernel_rfl) (by kernel_rfl) (fun _ _ _ h => h) (by rfl) (by intro w hSw; (try dsimp only at hSw); go_simp; try with_reducible rfl) (by assumption) ?_
          simp only [Act.put, List.setIfInBounds_toArray, List.set_cons_zero, List.set_cons_succ]
          refine any_take 31 (.agg #[.string xn, .int .i64 xa, .slice xs xsl xsc, .slice xu xul xuc, .bool xr]) (i := 4) rfl rfl (by kernel_rfl) (by kernel_rfl) (by kernel_rfl) (fun _ _ _ h => h) (by rfl) (by intro w hSw; (try dsimp only at hSw); go_simp; try with_reducible rfl) (by assumption) ?_
          simp only [Act.put, List.setIfInBounds_toArray, List.set_cons_zero, List.set_cons_succ]
          refine any_take 32 (.pointer (some ⟨Q, 0, none⟩)) (i := 5) rfl rfl (by kernel_rfl) (by kernel_rfl) (by kernel_rfl) (fun _ _ _ h => h) (by rfl) (by intro w hSw; (try dsimp only at hSw); go_simp; try with_reducible rfl) (by assumption) ?_
          simp only [Act.put, List.setIfInBounds_toArray, List.set_cons_zero, List.set_cons_succ]
          refine any_take 33 (.slice (some ae) n d) (i := 6) rfl rfl (by kernel_rfl) (by kernel_rfl) (by kernel_rfl) (fun _ _ _ h => h) (by rfl) (by intro w hSw; (try dsimp only at hSw); go_simp; try with_reducible rfl) (by assumption) ?_
          simp only [Act.put, List.setIfInBounds_toArray, List.set_cons_zero, List.set_cons_succ]
          refine any_take 34 (.int .i64 k) (i := 7) rfl rfl (by kernel_rfl) (by kernel_rfl) (by kernel_rfl) (fun _ _ _ h => h) (by rfl) (by intro w hSw; (try dsimp only at hSw); go_simp; try with_reducible rfl) (by assumption) ?_
          simp only [Act.put, List.setIfInBounds_toArray, List.set_cons_zero, List.set_cons_succ]
          refine any_take 35 (.pointer (some (ae.add (k * 5)))) (i := 8) rfl rfl (by kernel_rfl) (by kernel_rfl) (by kernel_rfl) (fun _ _ _ h => h) (by rfl) (by intro w hSw; (try dsimp only at hSw); go_simp; try with_reducible rfl) (by assumption) ?_
          simp only [Act.put, List.setIfInBounds_toArray, List.set_cons_zero, List.set_cons_succ]
          refine any_take 36 (.agg #[.string yn, .int .i64 ya, .slice ys ysl ysc, .slice yu yul yuc, .bool yr]) (i := 9) rfl rfl (by kernel_rfl) (by kernel_rfl) (by kernel_rfl) (fun _ _ _ h => h) (by rfl) (by intro w hSw; (try dsimp only at hSw); go_simp; try with_reducible rfl) (by assumption) ?_
          simp only [Act.put, List.setIfInBounds_toArray, List.set_cons_zero, List.set_cons_succ]
          refine wpAnyH_ready (rs := [10]) (by kernel_rfl) (by simp) ?_
          refine AllReadyH.cons rfl (fun K' hK => ?_) AllReadyH.nil
          go_simp
          go_at_call 31
          refine (HC.out _ ((Fr.refl No wr).drew)).mono ?_
          rintro e' w1 ⟨rfl, f1⟩
          have F1 : Fr No wr w1 := ((Fr.refl No wr).drew).then0 f1 (fun _ h => h.elim)
          have hFS := HS.out w1 F1
          dsimp only
          refine hK.out _ _ (hFS) (fun hHeld => ?_)
          clear hK
          try simp only [Act.put, List.setIfInBounds_toArray, List.set_cons_zero, List.set_cons_succ]
          refine any_take 38 (.bool false) (i := 11) rfl rfl (by kernel_rfl) (by kernel_rfl) (by kernel_rfl) (fun _ _ _ h => h) (by rfl) (by intro w hSw; (try dsimp only at hSw); go_simp; try with_reducible rfl) (by assumption) ?_
          simp only [Act.put, List.setIfInBounds_toArray, List.set_cons_zero, List.set_cons_succ]
          refine wpAnyH_done (by kernel_rfl) ?_ _
          clear hHeld
          have HG := Lib.hid (hg.out.trans' F1 (fun _ _ e => e))
          clear f1 F1 hFS
          go_wp2
          go_roundw
          case rel => exact ⟨k + 1, by omega, by go_num, HN, HG⟩
          case measure => simp [intOf]; omega
      · obtain rfl : k = n := by omega
        have hr : r = true := by rw [HR.out]; exact hpre.out
        go_wp2
        go_ret
        exact ⟨by first | (rw [hr]; rfl) | rfl, hwr⟩
end Go.Proofs.YtbemfomiiikpoaaGreat
