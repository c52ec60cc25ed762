/- The document's own: which spans a node may have; is a node in the unit of another one? -/
import Derived.Test.YtmeimhpllemjfaaGreatRfb14
import Derived.Deep.QuietTactic
import Derived.BigQuiet
import Derived.Test.YtmeimhpllemjfaaGreatMyu14
import Derived.Test.YtmeimhpllemjfaaGreatRmy12
import Derived.Deep.CutRange
namespace Go.Proofs.YtmeimhpllemjfaaGreat
open Go.RowKit

theorem spsOk_step {l : List Span} {k : Nat} (hk : k < l.length) (h : (l.take k).all (fun p => decide (0 ≤ p.1 ∧ p.1 ≤ p.2 ∧ p.2 ≤ 999)) = true) :
  (l.take (k + 1)).all (fun p => decide (0 ≤ p.1 ∧ p.1 ≤ p.2 ∧ p.2 ≤ 999)) = decide (0 ≤ l[k].1 ∧ l[k].1 ≤ l[k].2 ∧ l[k].2 ≤ 999) := by
 rw [List.take_succ_eq_append_getElem hk, List.all_append, h]
 simp
theorem spsOk_not {l : List Span} {k : Nat} (hk : k < l.length) (h : ¬ (0 ≤ l[k].1 ∧ l[k].1 ≤ l[k].2 ∧ l[k].2 ≤ 999)) : spsOk l = false := by
 have : (l.all fun p => decide (0 ≤ p.1 ∧ p.1 ≤ p.2 ∧ p.2 ≤ 999)) = false := by
  rw [List.all_eq_false]
  exact ⟨l[k], List.getElem_mem hk, by simpa using h⟩
 unfold spsOk
 rw [this]
 rfl
set_option maxRecDepth 100000 in
set_option maxHeartbeats 4000000 in
theorem refSpans14_any (l : List Span) (A : Option Addr) (n c : Nat) (w : World) (hsl : Sl w w.heap.size A (sps l)) (hn : l.length = n) (hnm : n ≤ 1099511627776) : Calls Tryz.prog 23 #[.slice A n c] w (Has w (spsOk l)) := by
 have Hsl := Lib.hid hsl
 have Hn := Lib.hid hn
 have Hno := Lib.hid (fun (k : Nat) (hk : k < l.length) => spsOk_not (l := l) hk)
 have Hend : Hid (l.all (fun p => decide (0 ≤ p.1 ∧ p.1 ≤ p.2 ∧ p.2 ≤ 999)) = true → spsOk l = decide ((n : Int) ≤ 40)) := Lib.hid (fun h => by
  unfold spsOk
  rw [h, hn, Bool.true_and]
  exact decide_eq_decide.2 (by omega))
 generalize spsOk l = r at *
 clear hsl hn
 go_enter Tryz.func23, Tryz.ntmps23
 go_wp2
 go_loopw [3] (fun iv wr => ∃ k : Nat, k ≤ n ∧ iv = .int .i64 (k : Int) ∧ Hid ((l.take k).all (fun p => decide (0 ≤ p.1 ∧ p.1 ≤ p.2 ∧ p.2 ≤ 999)) = true) ∧ Fr No w wr) (fun iv _ => n - (intOf iv).toNat)
 case atStart => exact ⟨0, Nat.zero_le _, rfl, Lib.hid (by simp), Fr.refl _ _⟩
 case round =>
  obtain ⟨k, hk, rfl, hpre, hfr⟩ := hrel
  by_cases hlt : k < n
  ·have hkl : k < l.length := by rw [Hn.out]; exact hlt
   obtain ⟨ad, rfl, hab, x0, x1⟩ := (Hsl.out.since hfr).span (k := k) hkl
   have Hs := Lib.hid (spsOk_step hkl hpre.out)
   have Hb := Lib.hid (Hno.out k hkl)
   generalize l[k].1 = a at *
   generalize l[k].2 = b at *
   clear hpre
   by_cases h1 : a < 0
   ·have d1 : decide (a < 0) = true := decide_eq_true h1
    have HT : Hid (r = false) := Lib.hid (Hb.out (by omega))
    clear h1 Hb Hs Hno Hend
    go_wp2
    go_quiet (fail)
    go_wp2
    go_ret
    exact ⟨by rw [HT.out]; rfl, hfr.drewN _⟩
   have d1 : decide (a < 0) = false := decide_eq_false h1
   by_cases h2 : b < a
   ·have d2 : decide (b < a) = true := decide_eq_true h2
    have HT : Hid (r = false) := Lib.hid (Hb.out (by omega))
    clear h1 h2 Hb Hs Hno Hend
    go_wp2
    go_quiet (fail)
    go_wp2
    go_ret
    exact ⟨by rw [HT.out]; rfl, hfr.drewN _⟩
   have d2 : decide (b < a) = false := decide_eq_false h2
   by_cases h3 : 999 < b
   ·have d3 : decide (999 < b) = true := decide_eq_true h3
    have HT : Hid (r = false) := Lib.hid (Hb.out (by omega))
    clear h1 h2 h3 Hb Hs Hno Hend
    go_wp2
    go_quiet (fail)
    go_wp2
    go_ret
    exact ⟨by rw [HT.out]; rfl, hfr.drewN _⟩
   have d3 : decide (999 < b) = false := decide_eq_false h3
   have HT : Hid ((l.take (k + 1)).all (fun p => decide (0 ≤ p.1 ∧ p.1 ≤ p.2 ∧ p.2 ≤ 999)) = true) := Lib.hid (by rw [Hs.out]; exact decide_eq_true (by omega))
   clear h1 h2 h3 Hb Hs Hno
   go_wp2
   go_quiet (fail)
   go_wp2
   go_roundw
   case rel => exact ⟨k + 1, by omega, by go_num, HT, hfr.drewN _⟩
   case measure => simp [intOf]; omega
  ·obtain rfl : k = n := by omega
   have HE : Hid (r = decide ((k : Int) ≤ 40)) := Lib.hid (Hend.out (by
    have h := hpre.out
    rwa [List.take_of_length_le (by rw [Hn.out]; exact Nat.le_refl _)] at h))
   clear hpre Hno Hend
   go_wp2
   go_ret
   exact ⟨by rw [HE.out]; rfl, hfr⟩
set_option maxRecDepth 100000 in
set_option maxHeartbeats 8000000 in
theorem refIn14_any (x : Ctl) (h : List Ndl) (A : Option Addr) (N cc : Nat) (i k : Nat) (d : Nat) (w : World) (hx : Clss w x.cA x.cls) (hh : Nds w A h) (hN : h.length = N) (hm : mayH x.p (ndsOf h) = true) (hi : i < N) (hk : k < N) (hd : d < x.cls.length) :
  Calls Tryz.prog 32 #[x.agg, .slice A N cc, .int .i64 (i : Int), .int .i64 (k : Int), .int .i64 (d : Int)] w (Has w (inN x.p (ndsOf h) i k (d : Int))) := by
 subst hN
 have hok := mayH_cat hm
 have hl : (ndsOf h).length = h.length := by simp [ndsOf]
 have pa := selfOk_parts (ndOk_self (mayH_at hm (i := i) (by omega)))
 have pb := selfOk_parts (ndOk_self (mayH_at hm (i := k) (by omega)))
 have hcl := saga_class hm (i := i) (k := k) (by omega) (by omega)
 have Hr : Hid (inN x.p (ndsOf h) i k (d : Int) = (decide (i = k) || inU x.p h[i].n h[k].n (d : Int))) := Lib.hid (by unfold inN; rw [ndsOf_at hi, ndsOf_at hk])
 rw [ndsOf_at hi] at pa hcl
 rw [ndsOf_at hk] at pb hcl
 generalize inN x.p (ndsOf h) i k (d : Int) = r at *
 have Hna := Lib.hid (fun W (hW : Fr No w W) => (hh.since hW).sl.nd hi)
 have Hnb := Lib.hid (fun W (hW : Fr No w W) => (hh.since hW).sl.nd hk)
 generalize h[i] = a at *
 generalize h[k] = b at *
 obtain ⟨-, ha1, -, -, ha2, ha3⟩ := pa
 obtain ⟨-, hb1, -, -, hb2, hb3⟩ := pb
 rw [has_eq, decide_eq_true_eq] at ha1 hb1
 obtain ⟨c, hc⟩ := Int.eq_ofNat_of_zero_le ha1.1
 obtain ⟨ta, hta⟩ := Int.eq_ofNat_of_zero_le ha2
 obtain ⟨tb, htb⟩ := Int.eq_ofNat_of_zero_le hb2
 have hcn : c < x.cls.length := by omega
 have hU : ∀ (j : Nat), j ≤ 1000 → ∀ W, Fr No w W → _ := fun j hj W hW => refUnit14_any x c d j W (hx.since hW) hok hcn hd hj
 have h4a : (ta : Int) ≤ 1000 := by
  have h5 := steps_eq x hcn
  have h6 := (nice_of_ok hok).few.st _ (List.getElem_mem hcn)
  rw [hc] at ha3
  omega
 have HUa := Lib.hid (hU ta (by omega))
 have HUb := Lib.hid (fun (hs : a.n.saga = b.n.saga) => hU tb (by
  have h5 := steps_eq x hcn
  have h6 := (nice_of_ok hok).few.st _ (List.getElem_mem hcn)
  have h7 := hcl hs
  rw [← h7, hc] at hb3
  omega))
 have Hin : Hid (inU x.p a.n b.n (d : Int) = (decide (a.n.saga = b.n.saga) && (!a.n.back && (!b.n.back && decide (cntB (x.p.bks (c : Int) (d : Int)) ta = cntB (x.p.bks (c : Int) (d : Int)) tb))))) := Lib.hid (by
  unfold inU
  rw [hc, hta, htb]
  rfl)
 generalize inU x.p a.n b.n (d : Int) = ru at *
 rw [hc, hta] at Hna
 rw [htb] at Hnb
 generalize cntB (x.p.bks (c : Int) (d : Int)) ta = ua at *
 generalize cntB (x.p.bks (c : Int) (d : Int)) tb = ub at *
 unfold Ctl.agg at HUa HUb ⊢
 obtain ⟨Z, hZ⟩ : ∃ Z, Z = x.arr := ⟨_, rfl⟩
 rw [← hZ] at HUa HUb ⊢
 rw [Ctl.arr_eq] at hZ
 obtain ⟨W0, hW0⟩ : ∃ W0, W0 = w.alloc (.cells Z 26) := ⟨_, rfl⟩
 have bZ : Bk W0 w.heap.size 26 Z := by rw [hW0]; exact Bk.made w _ _
 have HF0 : Hid (Fr No w W0) := Lib.hid (by rw [hW0]; exact (Fr.refl _ _).alloc _)
 have HLd : Hid (∀ V, Fr No W0 V → LdO V 26 ⟨w.heap.size, 0, none⟩ (.agg Z) ∧ V.cell? ⟨w.heap.size, 0, none⟩ = some (.slice x.cA x.cls.length x.cc)) := Lib.hid (fun V h => ⟨ld_cat hZ (bZ.fr h (fun e => e)), by rw [(bZ.fr h (fun e => e)).cell, hZ]; rfl⟩)
 have hwe := hW0.symm
 clear hZ hW0 bZ
 clear hx hok hm hh hl hcl ha1 ha2 ha3 hb1 hb2 hb3 hc hta htb hU h4a hcn
 generalize a.n.saga = sa at *
 generalize a.n.back = ka at *
 generalize a.n.rd.length = na at *
 generalize a.n.wt.length = ma at *
 generalize a.rA = Ra at *
 generalize a.rc = rca at *
 generalize a.wA = Va at *
 generalize a.wc = wca at *
 generalize b.n.saga = sb at *
 generalize b.n.cls = cb at *
 generalize b.n.back = kb at *
 generalize b.n.rd.length = nb at *
 generalize b.n.wt.length = mb at *
 generalize b.rA = Rb at *
 generalize b.rc = rcb at *
 generalize b.wA = Vb at *
 generalize b.wc = wcb at *
 generalize h.length = N at *
 go_enter Tryz.func32, Tryz.ntmps32
 go_wp2_with fail
 obtain ⟨ad, e1, hab, a0, a1, a2, a3, a4, a5⟩ := Hna.out _ HF0.out.drew
 obtain ⟨ae, e2, hae, b0, b1, b2, b3, b4, b5⟩ := Hnb.out _ HF0.out.drew
 subst e1
 obtain rfl : ad = ae := by injection e2
 clear e2
 obtain ⟨ad1, e1, -, a01, a11, a21, a31, a41, a51⟩ := Hna.out (W0.alloc (.cells #[.int .i64 0, .int .i64 0, .int .i64 0, .bool false, .slice none 0 0, .slice none 0 0] 37)) (HF0.out.alloc _)
 obtain rfl : ad = ad1 := by injection e1
 clear e1
 obtain ⟨ad2, e2, -, a02, a12, a22, a32, a42, a52⟩ := Hna.out ((W0.alloc (.cells #[.int .i64 0, .int .i64 0, .int .i64 0, .bool false, .slice none 0 0, .slice none 0 0] 37)).alloc (.cells #[.int .i64 0, .int .i64 0, .int .i64 0, .bool false, .slice none 0 0, .slice none 0 0] 37)) ((HF0.out.alloc _).alloc _)
 obtain rfl : ad = ad2 := by injection e2
 clear e2
 obtain ⟨ad3, e3, -, a03, a13, a23, a33, a43, a53⟩ := Hna.out (W0.alloc (.cells #[.int .i64 sb, .int .i64 cb, .int .i64 (tb : Int), .bool kb, .slice Rb nb rcb, .slice Vb mb wcb] 37)) (HF0.out.alloc _)
 obtain rfl : ad = ad3 := by injection e3
 clear e3
 obtain ⟨ad4, e4, -, a04, a14, a24, a34, a44, a54⟩ := Hna.out ((W0.alloc (.cells #[.int .i64 0, .int .i64 0, .int .i64 0, .bool false, .slice none 0 0, .slice none 0 0] 37)).alloc (.cells #[.int .i64 sb, .int .i64 cb, .int .i64 (tb : Int), .bool kb, .slice Rb nb rcb, .slice Vb mb wcb] 37)) ((HF0.out.alloc _).alloc _)
 obtain rfl : ad = ad4 := by injection e4
 clear e4
 obtain ⟨ad5, e5, -, a05, a15, a25, a35, a45, a55⟩ := Hna.out ((W0.alloc (.cells #[.int .i64 sb, .int .i64 cb, .int .i64 (tb : Int), .bool kb, .slice Rb nb rcb, .slice Vb mb wcb] 37)).alloc (.cells #[.int .i64 0, .int .i64 0, .int .i64 0, .bool false, .slice none 0 0, .slice none 0 0] 37)) ((HF0.out.alloc _).alloc _)
 obtain rfl : ad = ad5 := by injection e5
 clear e5
 obtain ⟨ad6, e6, -, b06, b16, b26, b36, b46, b56⟩ := Hnb.out (W0.alloc (.cells #[.int .i64 0, .int .i64 0, .int .i64 0, .bool false, .slice none 0 0, .slice none 0 0] 37)) (HF0.out.alloc _)
 obtain rfl : ad = ad6 := by injection e6
 clear e6
 obtain ⟨ad7, e7, -, b07, b17, b27, b37, b47, b57⟩ := Hnb.out ((W0.alloc (.cells #[.int .i64 0, .int .i64 0, .int .i64 0, .bool false, .slice none 0 0, .slice none 0 0] 37)).alloc (.cells #[.int .i64 0, .int .i64 0, .int .i64 0, .bool false, .slice none 0 0, .slice none 0 0] 37)) ((HF0.out.alloc _).alloc _)
 obtain rfl : ad = ad7 := by injection e7
 clear e7
 obtain ⟨ad8, e8, -, b08, b18, b28, b38, b48, b58⟩ := Hnb.out (W0.alloc (.cells #[.int .i64 sa, .int .i64 (c : Int), .int .i64 (ta : Int), .bool ka, .slice Ra na rca, .slice Va ma wca] 37)) (HF0.out.alloc _)
 obtain rfl : ad = ad8 := by injection e8
 clear e8
 obtain ⟨ad9, e9, -, b09, b19, b29, b39, b49, b59⟩ := Hnb.out ((W0.alloc (.cells #[.int .i64 0, .int .i64 0, .int .i64 0, .bool false, .slice none 0 0, .slice none 0 0] 37)).alloc (.cells #[.int .i64 sa, .int .i64 (c : Int), .int .i64 (ta : Int), .bool ka, .slice Ra na rca, .slice Va ma wca] 37)) ((HF0.out.alloc _).alloc _)
 obtain rfl : ad = ad9 := by injection e9
 clear e9
 obtain ⟨ad10, e10, -, b010, b110, b210, b310, b410, b510⟩ := Hnb.out ((W0.alloc (.cells #[.int .i64 sa, .int .i64 (c : Int), .int .i64 (ta : Int), .bool ka, .slice Ra na rca, .slice Va ma wca] 37)).alloc (.cells #[.int .i64 0, .int .i64 0, .int .i64 0, .bool false, .slice none 0 0, .slice none 0 0] 37)) ((HF0.out.alloc _).alloc _)
 obtain rfl : ad = ad10 := by injection e10
 clear e10
 go_cut [11, 12] from 13 to 20 (fun s11 s12 wx => ∃ P Q : Nat, s11 = .pointer (some ⟨P, 0, none⟩) ∧ s12 = .pointer (some ⟨Q, 0, none⟩) ∧ Hid (Bk wx P 37 #[.int .i64 sa, .int .i64 (c : Int), .int .i64 (ta : Int), .bool ka, .slice Ra na rca, .slice Va ma wca] ∧ Bk wx Q 37 #[.int .i64 sb, .int .i64 cb, .int .i64 (tb : Int), .bool kb, .slice Rb nb rcb, .slice Vb mb wcb]) ∧ Hid (Fr No W0 wx))
 case first =>
  go_region
  all_goals
   go_wp2
   go_meet
   first
    | exact ⟨_, _, rfl, rfl, Lib.hid ⟨bkd12 (bka12 (Bk.made _ _ _) _), bkd12 (bkm12 (by simp))⟩, Lib.hid (((Fr.refl No W0).alloc _).alloc _).drew⟩
    | exact ⟨_, _, rfl, rfl, Lib.hid ⟨bkd12 (bkm12 (by simp)), bkd12 (bka12 (Bk.made _ _ _) _)⟩, Lib.hid (((Fr.refl No W0).alloc _).alloc _).drew⟩
 case rest =>
  obtain ⟨P, Q, rfl, rfl, hPQ, hfr⟩ := hcut
  clear a01 a11 a21 a31 a41 a51 a02 a12 a22 a32 a42 a52 a03 a13 a23 a33 a43 a53 a04 a14 a24 a34 a44 a54 a05 a15 a25 a35 a45 a55 b06 b16 b26 b36 b46 b56 b07 b17 b27 b37 b47 b57 b08 b18 b28 b38 b48 b58 b09 b19 b29 b39 b49 b59 b010 b110 b210 b310 b410 b510 a0 a1 a2 a3 a4 a5 b0 b1 b2 b3 b4 b5
  have HF1 := Lib.hid (HF0.out.trans' hfr.out (fun _ _ e => e))
  by_cases hik : i = k
  ·have hik2 : decide ((i : Int) = (k : Int)) = true := decide_eq_true (by omega)
   have hik3 : ((i : Int) == (k : Int)) = true := by simp [hik]
   have hik4 : decide (i = k) = true := decide_eq_true hik
   have HT : Hid (r = true) := Lib.hid (by rw [Hr.out, hik4]; rfl)
   clear HUa HUb Hr Hin hPQ hwe
   go_wp2
   go_ret
   exact ⟨by rw [HT.out]; rfl, HF1.out⟩
  have hik2 : decide ((i : Int) = (k : Int)) = false := decide_eq_false (by omega)
  have hik4 : decide (i = k) = false := decide_eq_false hik
  have hik3 : ((i : Int) == (k : Int)) = false := by simp; omega
  have HR : Hid (r = ru) := Lib.hid (by rw [Hr.out, hik4]; rfl)
  have bxa := hPQ.out.1
  have q0a := bxa.cell 0
  have q1a := bxa.cell 1
  have q2a := bxa.cell 2
  have q3a := bxa.cell 3
  simp only [List.getElem?_toArray, List.getElem?_cons_zero, List.getElem?_cons_succ] at q0a q1a q2a q3a
  have bxb := hPQ.out.2
  have q0b := bxb.cell 0
  have q2b := bxb.cell 2
  have q3b := bxb.cell 3
  simp only [List.getElem?_toArray, List.getElem?_cons_zero, List.getElem?_cons_succ] at q0b q2b q3b
  by_cases hs : sa = sb
  ·have hs2 : decide (sa = sb) = true := decide_eq_true hs
   have hs3 : (sa == sb) = true := by simp [hs]
   rw [hs2] at Hin
   cases ka
   ·cases kb
    ·have HT : Hid (ru = decide (ua = ub)) := Lib.hid (by rw [Hin.out]; rfl)
     have HLS := Lib.hid (fun V (hV : Fr No wc V) => And.intro (HLd.out V (hfr.out.trans' hV (fun _ _ e => e))).1 (And.intro (((hPQ.out.1.fr hV (fun e => e)).cell 0).trans rfl) (And.intro (((hPQ.out.1.fr hV (fun e => e)).cell 1).trans rfl) (And.intro (((hPQ.out.1.fr hV (fun e => e)).cell 2).trans rfl) (And.intro (((hPQ.out.1.fr hV (fun e => e)).cell 3).trans rfl) (And.intro (((hPQ.out.2.fr hV (fun e => e)).cell 0).trans rfl) (And.intro (((hPQ.out.2.fr hV (fun e => e)).cell 2).trans rfl) (((hPQ.out.2.fr hV (fun e => e)).cell 3).trans rfl))))))))
     have HU2 := Lib.hid (HUb.out hs)
     subst hs
     clear Hr Hin hwe HUb
     have hfd := Lib.hid (hfr.out.drew)
     go_wp2_with fail
     refine wp_region_held_drew (S := fun V => LdO V 26 ⟨w.heap.size, 0, none⟩ (.agg Z) ∧ V.cell? ⟨P, 0, none⟩ = some (.int .i64 sa) ∧ V.cell? ⟨P, 1, none⟩ = some (.int .i64 (c : Int)) ∧ V.cell? ⟨P, 2, none⟩ = some (.int .i64 (ta : Int)) ∧ V.cell? ⟨P, 3, none⟩ = some (.bool false) ∧ V.cell? ⟨Q, 0, none⟩ = some (.int .i64 sa) ∧ V.cell? ⟨Q, 2, none⟩ = some (.int .i64 (tb : Int)) ∧ V.cell? ⟨Q, 3, none⟩ = some (.bool false)) (by kernel_rfl) (HLS.out _ ((Fr.refl No wc).drew)) (fun hHeld => ?_)
     refine any_u 24 (.pointer (some ⟨P, 0, none⟩)) (i := 0) rfl rfl ?_
     simp only [Act.put, szA, szB, szC]
     refine any_u 25 (.int .i64 sa) (i := 1) rfl rfl ?_
     simp only [Act.put, szA, szB, szC]
     refine any_u 26 (.pointer (some ⟨Q, 0, none⟩)) (i := 2) rfl rfl ?_
     simp only [Act.put, szA, szB, szC]
     refine any_u 27 (.int .i64 sa) (i := 3) rfl rfl ?_
     simp only [Act.put, szA, szB, szC]
     refine any_u 28 (.bool true) (i := 4) rfl rfl ?_
     simp only [Act.put, szA, szB, szC]
     refine any_u 29 (.bool true) (i := 5) rfl rfl ?_
     simp only [Act.put, szA, szB, szC]
     refine any_u 30 (.pointer (some ⟨P, 3, none⟩)) (i := 6) rfl rfl ?_
     simp only [Act.put, szA, szB, szC]
     refine any_u 31 (.bool false) (i := 7) rfl rfl ?_
     simp only [Act.put, szA, szB, szC]
     refine any_u 32 (.bool true) (i := 8) rfl rfl ?_
     simp only [Act.put, szA, szB, szC]
     refine any_u 33 (.bool true) (i := 9) rfl rfl ?_
     simp only [Act.put, szA, szB, szC]
     refine any_u 34 (.bool true) (i := 10) rfl rfl ?_
     simp only [Act.put, szA, szB, szC]
     refine any_u 35 (.pointer (some ⟨Q, 3, none⟩)) (i := 11) rfl rfl ?_
     simp only [Act.put, szA, szB, szC]
     refine any_u 36 (.bool false) (i := 12) rfl rfl ?_
     simp only [Act.put, szA, szB, szC]
     refine any_u 37 (.bool true) (i := 13) rfl rfl ?_
     simp only [Act.put, szA, szB, szC]
     refine any_u 38 (.bool true) (i := 14) rfl rfl ?_
     simp only [Act.put, szA, szB, szC]
     refine any_u 39 (.bool true) (i := 15) rfl rfl ?_
     simp only [Act.put, szA, szB, szC]
     refine any_tk 40 (.agg Z) (i := 16) rfl rfl (by kernel_rfl) (fun _ _ _ h => h) (by rfl) (by intro w hSw; exact exec_ld rfl hSw.1) (by assumption) ?_
     simp only [Act.put, szA, szB, szC]
     refine any_u 41 (.pointer (some ⟨P, 1, none⟩)) (i := 17) rfl rfl ?_
     simp only [Act.put, szA, szB, szC]
     refine any_u 42 (.int .i64 (c : Int)) (i := 18) rfl rfl ?_
     simp only [Act.put, szA, szB, szC]
     refine any_u 43 (.int .i64 (d : Int)) (i := 19) rfl rfl ?_
     simp only [Act.put, szA, szB, szC]
     refine any_u 44 (.pointer (some ⟨P, 2, none⟩)) (i := 20) rfl rfl ?_
     simp only [Act.put, szA, szB, szC]
     refine any_u 45 (.int .i64 (ta : Int)) (i := 21) rfl rfl ?_
     simp only [Act.put, szA, szB, szC]
     refine any_tk 47 (.agg Z) (i := 23) rfl rfl (by kernel_rfl) (fun _ _ _ h => h) (by rfl) (by intro w hSw; exact exec_ld rfl hSw.1) (by assumption) ?_
     simp only [Act.put, szA, szB, szC]
     refine any_u 48 (.pointer (some ⟨P, 1, none⟩)) (i := 24) rfl rfl ?_
     simp only [Act.put, szA, szB, szC]
     refine any_u 49 (.int .i64 (c : Int)) (i := 25) rfl rfl ?_
     simp only [Act.put, szA, szB, szC]
     refine any_u 50 (.int .i64 (d : Int)) (i := 26) rfl rfl ?_
     simp only [Act.put, szA, szB, szC]
     refine any_u 51 (.pointer (some ⟨Q, 2, none⟩)) (i := 27) rfl rfl ?_
     simp only [Act.put, szA, szB, szC]
     refine any_u 52 (.int .i64 (tb : Int)) (i := 28) rfl rfl ?_
     simp only [Act.put, szA, szB, szC]
     refine wpAnyH_ready (rs := [22]) (by kernel_rfl) (by simp) ?_
     refine AllReadyH.cons rfl (fun K' hK => ?_) AllReadyH.nil
     go_simp
     go_at_call 50
     refine (HUa.out _ (HF1.out.trans' ((Fr.refl No wc).drew) (fun _ _ e => e))).mono ?_
     rintro e' z1 ⟨rfl, zf1⟩
     have G1 := Lib.hid (((Fr.refl No wc).drew).trans' zf1 (fun _ _ e => e))
     clear zf1
     dsimp only
     refine hK.out _ _ (HLS.out _ G1.out) (fun hHeld => ?_)
     clear hK
     try simp only [Act.put, szA, szB, szC]
     refine wpAnyH_ready (rs := [29]) (by kernel_rfl) (by simp) ?_
     refine AllReadyH.cons rfl (fun K' hK => ?_) AllReadyH.nil
     go_simp
     go_at_call 50
     refine (HU2.out _ (HF1.out.trans' (G1.out) (fun _ _ e => e))).mono ?_
     rintro e' z2 ⟨rfl, zf2⟩
     have G2 := Lib.hid ((G1.out).trans' zf2 (fun _ _ e => e))
     clear zf2
     dsimp only
     refine hK.out _ _ (HLS.out _ G2.out) (fun hHeld => ?_)
     clear hK
     try simp only [Act.put, szA, szB, szC]
     refine any_tk 54 (.bool (decide (ua = ub))) (i := 30) rfl rfl (by kernel_rfl) (fun _ _ _ h => h) (by rfl) (by intro w hSw; (try dsimp only at hSw); go_simp; first | with_reducible rfl | (congr 3; exact decide_eq_decide.2 (by omega)) | (simp; done)) (by assumption) ?_
     simp only [Act.put, szA, szB, szC]
     refine any_u 55 (.bool (decide (ua = ub))) (i := 31) rfl rfl ?_
     simp only [Act.put, szA, szB, szC]
     refine any_u 10 (.bool (decide (ua = ub))) (i := 32) rfl rfl ?_
     simp only [Act.put, szA, szB, szC]
     refine wpAnyH_done (by kernel_rfl) ?_ _
     clear hHeld
     go_wp2
     go_ret
     exact ⟨by rw [HR.out, HT.out]; rfl, HF1.out.trans' G2.out (fun _ _ e => e)⟩
    ·have HT : Hid (ru = false) := Lib.hid (by rw [Hin.out]; first | rfl | simp)
     clear HUa HUb Hr Hin hPQ hwe
     go_wp2
     go_quiet (fail)
     go_wp2
     go_ret
     exact ⟨by rw [HR.out, HT.out]; rfl, HF1.out.drewN _⟩
   ·have HT : Hid (ru = false) := Lib.hid (by rw [Hin.out]; first | rfl | simp)
    clear HUa HUb Hr Hin hPQ hwe
    go_wp2
    go_quiet (fail)
    go_wp2
    go_ret
    exact ⟨by rw [HR.out, HT.out]; rfl, HF1.out.drewN _⟩
  ·have hs2 : decide (sa = sb) = false := decide_eq_false hs
   have hs3 : (sa == sb) = false := by simpa using hs
   rw [hs2] at Hin
   have HT : Hid (ru = false) := Lib.hid (by rw [Hin.out]; first | rfl | simp)
   clear HUa HUb Hr Hin hPQ hwe
   go_wp2
   go_quiet (fail)
   go_wp2
   go_ret
   exact ⟨by rw [HR.out, HT.out]; rfl, HF1.out.drewN _⟩
end Go.Proofs.YtmeimhpllemjfaaGreat
/- The document's own: may a history be? -/
namespace Go.Proofs.YtmeimhpllemjfaaGreat
open Go.RowKit

theorem selfOk_parts2 (x : Ctl) (n : Nd) : selfOk x.p n = (decide (0 ≤ n.saga) && (x.p.has n.cls && (spsOk n.rd && (spsOk n.wt && (decide (0 ≤ n.step) && decide (n.step < (x.p.steps n.cls : Int))))))) := by
 unfold selfOk
 congr 1
 congr 1
 congr 1
 congr 1
 rw [← Bool.decide_and]
set_option maxRecDepth 100000 in
set_option maxHeartbeats 16000000 in
theorem refMayH14_any (x : Ctl) (h : List Ndl) (A : Option Addr) (N c : Nat) (w : World) (hx : Clss w x.cA x.cls) (hh : Nds w A h) (hN : h.length = N) (hNm : N ≤ 1048576) (hf : Nds.Few h) :
  Calls Tryz.prog 9 #[x.agg, .slice A N c] w (Has w (mayH x.p (ndsOf h))) := by
 have HM := Lib.hid (fun W (hW : Fr No w W) => refMay12_any x W (hx.since hW))
 have hlen : (ndsOf h).length = N := by simp [ndsOf, hN]
 have HT := Lib.hid (fun (cc : Int) W => refThere14_any x cc W)
 have HS1 := Lib.hid (fun (k : Nat) (hk : k < h.length) W (hW : Fr No w W) => refSpans14_any h[k].n.rd h[k].rA h[k].n.rd.length h[k].rc W ((hh.since hW).all _ (List.getElem_mem hk)).rd rfl (by have := (hf.all _ (List.getElem_mem hk)).1; omega))
 have HS2 := Lib.hid (fun (k : Nat) (hk : k < h.length) W (hW : Fr No w W) => refSpans14_any h[k].n.wt h[k].wA h[k].n.wt.length h[k].wc W ((hh.since hW).all _ (List.getElem_mem hk)).wt rfl (by have := (hf.all _ (List.getElem_mem hk)).2; omega))
 have HOk := Lib.hid (fun (k : Nat) (hk : k < h.length) => show ndOk x.p (ndsOf h) k = (selfOk x.p h[k].n && (if lastN (ndsOf h) h[k].n.saga k = 0 then !h[k].n.back && decide (h[k].n.step = 0) else nextOk (ndAt (ndsOf h) (lastN (ndsOf h) h[k].n.saga k - 1)) h[k].n)) by
  unfold ndOk
  rw [ndsOf_at hk])
 have HSm := Lib.hid (fun (hok : x.p.ok = true) (k : Nat) (hk : k < h.length) (hs : ndOk x.p (ndsOf h) k = true) => show -1000 ≤ h[k].n.step ∧ h[k].n.step ≤ 1000 by
  have := step_small hok (ndOk_self hs)
  rwa [ndsOf_at hk] at this)
 have Hbad := Lib.hid (fun (k : Nat) (hk : k < h.length) (hb : ndOk x.p (ndsOf h) k = false) => mayH_bad (by omega) hb)
 have Hall := Lib.hid (fun (hok : x.p.ok = true) (h1 : N ≤ 100) (ha : (List.range N).all (ndOk x.p (ndsOf h)) = true) => show mayH x.p (ndsOf h) = true from mayH_all hok (by rw [hlen]; exact h1) (by rw [hlen]; exact ha))
 have Hnc : Hid (mayH x.p (ndsOf h) = true → x.p.ok = true ∧ N ≤ 100) := Lib.hid (fun e => ⟨mayH_cat e, by have := mayH_len e; omega⟩)
 have Hnd := Lib.hid (fun (k : Nat) (hk : k < h.length) W (hW : Fr No w W) => (hh.since hW).sl.nd hk)
 have Hat := Lib.hid (fun (k : Nat) (hk : k < h.length) => ndsOf_at (l := h) hk)
 have Hsf := Lib.hid (fun (n : Nd) => selfOk_parts2 x n)
 have Hcl := Lib.hid (fun (k : Nat) (hk : k < x.cls.length) W (hW : Fr No w W) => (hx.since hW).sl.cls hk)
 have Hst := Lib.hid (fun (k : Nat) (hk : k < x.cls.length) => steps_eq x hk)
 have Hhas := Lib.hid (fun (cc : Int) => has_eq x cc)
 generalize mayH x.p (ndsOf h) = r at *
 generalize ndOk x.p (ndsOf h) = ck at *
 unfold Ctl.agg at HM HT ⊢
 obtain ⟨Z, hZ⟩ : ∃ Z, Z = x.arr := ⟨_, rfl⟩
 rw [← hZ] at HM HT ⊢
 rw [Ctl.arr_eq] at hZ
 obtain ⟨W0, hW0⟩ : ∃ W0, W0 = w.alloc (.cells Z 26) := ⟨_, rfl⟩
 have bZ : Bk W0 w.heap.size 26 Z := by rw [hW0]; exact Bk.made w _ _
 have HF0 : Hid (Fr No w W0) := Lib.hid (by rw [hW0]; exact (Fr.refl _ _).alloc _)
 have HLd : Hid (∀ V, Fr No W0 V → LdO V 26 ⟨w.heap.size, 0, none⟩ (.agg Z) ∧ V.cell? ⟨w.heap.size, 0, none⟩ = some (.slice x.cA x.cls.length x.cc)) := Lib.hid (fun V h => ⟨ld_cat hZ (bZ.fr h (fun e => e)), by rw [(bZ.fr h (fun e => e)).cell, hZ]; rfl⟩)
 have hwe := hW0.symm
 clear hZ hW0 bZ
 have HL := Lib.hid (fun V (hV : Fr No W0 V) => (HLd.out V hV).1)
 have HN := Lib.hid hN
 clear hx hh hf hN hlen
 have HL0 := Lib.hid (HL.out _ (Fr.refl _ _))
 have HM0 := Lib.hid (HM.out _ HF0.out)
 obtain ⟨ok, hok⟩ : ∃ b, x.p.ok = b := ⟨_, rfl⟩
 rw [hok] at HM0
 clear HM
 cases ok
 ·have HF : Hid (r = false) := Lib.hid (by
   cases r
   ·rfl
   ·have := (Hnc.out rfl).1
    rw [hok] at this
    cases this)
  clear HT HS1 HS2 HOk HSm Hbad Hall Hnd Hat Hsf Hcl Hst Hhas hok
  go_enter Tryz.func9, Tryz.ntmps9
  go_wp2_with (first
   | ((with_reducible refine wpl_ld ?_ ?_ HL0.out ?_); (· rfl); (· rfl); simp only [Act.put, szA, szB, szC]))
  refine (HM0.out).mono ?_
  rintro e w1 ⟨rfl, f1⟩
  go_wp2
  go_ret
  exact ⟨by rw [HF.out]; rfl, HF0.out.trans' f1 (fun _ _ e => e)⟩
 by_cases h100 : 100 < N
 ·have d0 : decide (100 < (N : Int)) = true := decide_eq_true (by omega)
  have HF : Hid (r = false) := Lib.hid (by
   cases r
   ·rfl
   ·have := (Hnc.out rfl).2
    omega)
  clear HT HS1 HS2 HOk HSm Hbad Hall Hnd Hat Hsf Hcl Hst Hhas hok
  go_enter Tryz.func9, Tryz.ntmps9
  go_wp2_with (first
   | ((with_reducible refine wpl_ld ?_ ?_ HL0.out ?_); (· rfl); (· rfl); simp only [Act.put, szA, szB, szC]))
  refine (HM0.out).mono ?_
  rintro e w1 ⟨rfl, f1⟩
  go_wp2
  go_ret
  exact ⟨by rw [HF.out]; rfl, HF0.out.trans' f1 (fun _ _ e => e)⟩
 have d0 : decide (100 < (N : Int)) = false := decide_eq_false (by omega)
 have HSm2 := Lib.hid (HSm.out hok)
 have Hall2 := Lib.hid (Hall.out hok (by omega))
 clear HSm Hall hok Hnc
 go_enter Tryz.func9, Tryz.ntmps9
 go_wp2_with (first
  | ((with_reducible refine wpl_ld ?_ ?_ HL0.out ?_); (· rfl); (· rfl); simp only [Act.put, szA, szB, szC]))
 refine (HM0.out).mono ?_
 rintro e w1 ⟨rfl, f1⟩
 have F1 := Lib.hid f1
 clear f1 HM0 HL0 hwe
 go_wp2
 go_loopw [5] (fun iv wr => ∃ k : Nat, k ≤ N ∧ iv = .int .i64 (k : Int) ∧ Hid ((List.range k).all ck = true) ∧ Hid (Fr No W0 wr)) (fun iv _ => N - (intOf iv).toNat)
 case atStart => exact ⟨0, Nat.zero_le _, rfl, Lib.hid rfl, F1⟩
 case round =>
  obtain ⟨k, hk, rfl, hpre, hfr⟩ := hrel
  by_cases hlt : k < N
  ·have hkl : k < h.length := by rw [HN.out]; exact hlt
   have hkN : ((k : Nat) : Int) < (N : Int) := by omega
   obtain ⟨ad, rfl, hab, a0, a1, a2, a3, a4, a5⟩ := Hnd.out k hkl wr (HF0.out.trans' hfr.out (fun _ _ e => e))
   have hT := Lib.hid (fun W => HT.out h[k].n.cls W)
   have hS1 := Lib.hid (fun W hW => HS1.out k hkl W hW)
   have hS2 := Lib.hid (fun W hW => HS2.out k hkl W hW)
   have Hck := Lib.hid (HOk.out k hkl)
   rw [Hsf.out] at Hck
   have Hnx : Hid (ck k = true → (List.range (k + 1)).all ck = true) := Lib.hid (fun e => by rw [range_all_snoc, hpre.out, e]; rfl)
   have Hb := Lib.hid (Hbad.out k hkl)
   have hsm : Hid (∀ j (hj : j < h.length), j < k → -1000 ≤ h[j].n.step ∧ h[j].n.step ≤ 1000) := Lib.hid (fun j hj hjk => HSm2.out j hj (range_all_at hpre.out hjk))
   have hhas := Lib.hid (Hhas.out h[k].n.cls)
   have hCl := Lib.hid (fun (n : Nat) (hn : n < x.cls.length) => And.intro (Hst.out n hn) (Hcl.out n hn))
   have hLast := Lib.hid (fun j => lastN_P (ndsOf h) h[k].n.saga j)
   have hLst2 := Lib.hid (fun j => show lastN (ndsOf h) h[k].n.saga (j + 1) = if (ndAt (ndsOf h) j).saga = h[k].n.saga then j + 1 else lastN (ndsOf h) h[k].n.saga j from rfl)
   have hLe := Lib.hid (fun j => lastN_le (ndsOf h) h[k].n.saga j)
   have hL00 : Hid (lastN (ndsOf h) h[k].n.saga 0 = 0) := Lib.hid rfl
   generalize spsOk h[k].n.rd = b3 at *
   generalize spsOk h[k].n.wt = b4 at *
   generalize lastN (ndsOf h) h[k].n.saga = lst at *
   generalize h[k] = a at *
   have HNk := Lib.hid (fun (y : Nd) => show nextOk y a.n = (decide (a.n.cls = y.cls) && (decide (a.n.step = if a.n.back = true then (if y.back = true then y.step - 1 else y.step) else y.step + 1) && !(y.back && !a.n.back))) from rfl)
   clear hpre HS1 HS2 HOk Hbad HSm2 Hst Hcl Hhas Hsf hLast
   generalize a.n.saga = sa at *
   generalize a.n.cls = ca at *
   generalize a.n.step = ta at *
   generalize a.n.back = ka at *
   generalize a.n.rd.length = na at *
   generalize a.n.wt.length = ma at *
   generalize a.rA = Ra at *
   generalize a.rc = rca at *
   generalize a.wA = Va at *
   generalize a.wc = wca at *
   generalize x.p.has ca = b2 at *
   obtain ⟨V1, hV1⟩ : ∃ V1, V1 = wr.alloc (.cells #[.int .i64 sa, .int .i64 ca, .int .i64 ta, .bool ka, .slice Ra na rca, .slice Va ma wca] 37) := ⟨_, rfl⟩
   have bA : Bk V1 wr.heap.size 37 #[.int .i64 sa, .int .i64 ca, .int .i64 ta, .bool ka, .slice Ra na rca, .slice Va ma wca] := by rw [hV1]; exact Bk.made _ _ _
   have FV1 : Hid (Fr No W0 V1) := Lib.hid (by rw [hV1]; exact hfr.out.alloc _)
   have HbA := Lib.hid (fun V (hV : Fr No V1 V) => bA.fr hV (fun e => e))
   have HL1 := Lib.hid (fun V (hV : Fr No V1 V) => HLd.out V (FV1.out.trans' hV (fun _ _ e => e)))
   go_wp2_with fail
   rw [← hV1]
   generalize wr.heap.size = P at *
   clear hV1 bA a0 a1 a2 a3 a4 a5
   obtain ⟨sk, hsk⟩ : ∃ s, (decide (0 ≤ sa) && (b2 && (b3 && (b4 && (decide (0 ≤ ta) && decide (ta < (x.p.steps ca : Int))))))) = s := ⟨_, rfl⟩
   have Hsk := Lib.hid hsk
   rw [hsk] at Hck
   go_cut [68] from 29 to 68 (fun s wx => s = .bool (!sk) ∧ Hid (Fr No V1 wx))
   case first =>
    have HSS : Hid (∀ V, Fr No V1 V → (fun V => LdO V 26 ⟨w.heap.size, 0, none⟩ (.agg Z) ∧ V.cell? ⟨w.heap.size, 0, none⟩ = some (.slice x.cA x.cls.length x.cc) ∧ V.cell? ⟨P, 0, none⟩ = some (.int .i64 sa) ∧ V.cell? ⟨P, 1, none⟩ = some (.int .i64 ca) ∧ V.cell? ⟨P, 2, none⟩ = some (.int .i64 ta) ∧ V.cell? ⟨P, 4, none⟩ = some (.slice Ra na rca) ∧ V.cell? ⟨P, 5, none⟩ = some (.slice Va ma wca)) V) := Lib.hid (fun V hV => ⟨(HL1.out V hV).1, (HL1.out V hV).2, (HbA.out V hV).cell 0, (HbA.out V hV).cell 1, (HbA.out V hV).cell 2, (HbA.out V hV).cell 4, (HbA.out V hV).cell 5⟩)
    have D0 : Hid (Fr No V1 V1.drew) := Lib.hid ((Fr.refl No V1).drew)
    have HFV : Hid (∀ V, Fr No V1 V → Fr No w V) := Lib.hid (fun V hV => HF0.out.trans' (FV1.out.trans' hV (fun _ _ e => e)) (fun _ _ e => e))
    clear Hnd Hat hsm hLst2 hLe hsk
    by_cases z1 : 0 ≤ sa
    ·have e1 : decide (0 ≤ sa) = true := decide_eq_true z1
     have e1' : decide (sa < 0) = false := decide_eq_false (by omega)
     rw [e1, Bool.true_and] at Hsk
     cases b2
     ·refine wp_region_held_drew (S := fun V => LdO V 26 ⟨w.heap.size, 0, none⟩ (.agg Z) ∧ V.cell? ⟨w.heap.size, 0, none⟩ = some (.slice x.cA x.cls.length x.cc) ∧ V.cell? ⟨P, 0, none⟩ = some (.int .i64 sa) ∧ V.cell? ⟨P, 1, none⟩ = some (.int .i64 ca) ∧ V.cell? ⟨P, 2, none⟩ = some (.int .i64 ta) ∧ V.cell? ⟨P, 4, none⟩ = some (.slice Ra na rca) ∧ V.cell? ⟨P, 5, none⟩ = some (.slice Va ma wca)) (by kernel_rfl) (HSS.out _ D0.out) (fun hHeld => ?_)
      refine any_u 29 (.pointer (some ⟨P, 0, none⟩)) (i := 0) rfl rfl ?_
      simp only [Act.put, szA, szB, szC]
      refine any_u 30 (.int .i64 sa) (i := 1) rfl rfl ?_
      simp only [Act.put, szA, szB, szC]
      refine any_u 31 (.bool false) (i := 2) rfl rfl ?_
      simp only [Act.put, szA, szB, szC]
      refine any_u 32 (.bool false) (i := 3) rfl rfl ?_
      simp only [Act.put, szA, szB, szC]
      refine any_tk 33 (.agg Z) (i := 4) rfl rfl (by kernel_rfl) (fun _ _ _ h => h) (by rfl) (by intro w hSw; exact exec_ld rfl hSw.1) (by assumption) ?_
      simp only [Act.put, szA, szB, szC]
      refine any_u 34 (.pointer (some ⟨P, 1, none⟩)) (i := 5) rfl rfl ?_
      simp only [Act.put, szA, szB, szC]
      refine any_u 35 (.int .i64 ca) (i := 6) rfl rfl ?_
      simp only [Act.put, szA, szB, szC]
      refine wpAnyH_ready (rs := [7]) (by kernel_rfl) (by simp) ?_
      refine AllReadyH.cons rfl (fun K' hK => ?_) AllReadyH.nil
      go_simp
      go_at_call 22
      refine (hT.out _).mono ?_
      rintro e' w2 ⟨rfl, f2⟩
      have D2 := Lib.hid (D0.out.trans' f2 (fun _ _ e => e))
      clear f2
      dsimp only
      refine hK.out _ _ (HSS.out _ D2.out) (fun hHeld => ?_)
      clear hK
      try simp only [Act.put, szA, szB, szC]
      refine any_u 37 (.bool true) (i := 8) rfl rfl ?_
      simp only [Act.put, szA, szB, szC]
      refine any_u 38 (.bool true) (i := 9) rfl rfl ?_
      simp only [Act.put, szA, szB, szC]
      refine any_u 39 (.bool true) (i := 10) rfl rfl ?_
      simp only [Act.put, szA, szB, szC]
      refine any_v 40 (i := 11) rfl rfl ?_
      simp only [Act.put, szA, szB, szC]
      refine any_v 41 (i := 12) rfl rfl ?_
      simp only [Act.put, szA, szB, szC]
      refine any_v 42 (i := 13) rfl rfl ?_
      simp only [Act.put, szA, szB, szC]
      refine any_v 43 (i := 14) rfl rfl ?_
      simp only [Act.put, szA, szB, szC]
      refine any_u 44 (.bool true) (i := 15) rfl rfl ?_
      simp only [Act.put, szA, szB, szC]
      refine any_u 45 (.bool true) (i := 16) rfl rfl ?_
      simp only [Act.put, szA, szB, szC]
      refine any_v 46 (i := 17) rfl rfl ?_
      simp only [Act.put, szA, szB, szC]
      refine any_v 47 (i := 18) rfl rfl ?_
      simp only [Act.put, szA, szB, szC]
      refine any_v 48 (i := 19) rfl rfl ?_
      simp only [Act.put, szA, szB, szC]
      refine any_v 49 (i := 20) rfl rfl ?_
      simp only [Act.put, szA, szB, szC]
      refine any_u 50 (.bool true) (i := 21) rfl rfl ?_
      simp only [Act.put, szA, szB, szC]
      refine any_u 51 (.bool true) (i := 22) rfl rfl ?_
      simp only [Act.put, szA, szB, szC]
      refine any_v 52 (i := 23) rfl rfl ?_
      simp only [Act.put, szA, szB, szC]
      refine any_v 53 (i := 24) rfl rfl ?_
      simp only [Act.put, szA, szB, szC]
      refine any_v 54 (i := 25) rfl rfl ?_
      simp only [Act.put, szA, szB, szC]
      refine any_u 55 (.bool true) (i := 26) rfl rfl ?_
      simp only [Act.put, szA, szB, szC]
      refine any_u 56 (.bool true) (i := 27) rfl rfl ?_
      simp only [Act.put, szA, szB, szC]
      refine any_v 57 (i := 28) rfl rfl ?_
      simp only [Act.put, szA, szB, szC]
      refine any_v 58 (i := 29) rfl rfl ?_
      simp only [Act.put, szA, szB, szC]
      refine any_v 59 (i := 30) rfl rfl ?_
      simp only [Act.put, szA, szB, szC]
      refine any_v 60 (i := 31) rfl rfl ?_
      simp only [Act.put, szA, szB, szC]
      refine any_v 61 (i := 32) rfl rfl ?_
      simp only [Act.put, szA, szB, szC]
      refine any_v 62 (i := 33) rfl rfl ?_
      simp only [Act.put, szA, szB, szC]
      refine any_v 63 (i := 34) rfl rfl ?_
      simp only [Act.put, szA, szB, szC]
      refine any_v 64 (i := 35) rfl rfl ?_
      simp only [Act.put, szA, szB, szC]
      refine any_v 65 (i := 36) rfl rfl ?_
      simp only [Act.put, szA, szB, szC]
      refine any_v 66 (i := 37) rfl rfl ?_
      simp only [Act.put, szA, szB, szC]
      refine any_v 67 (i := 38) rfl rfl ?_
      simp only [Act.put, szA, szB, szC]
      refine any_u 68 (.bool true) (i := 39) rfl rfl ?_
      simp only [Act.put, szA, szB, szC]
      refine wpAnyH_done (by kernel_rfl) ?_ _
      clear hHeld
      go_wp2
      go_meet
      exact ⟨by rw [← Hsk.out]; first | rfl | (simp; done) | (simp [*]; done), D2⟩
     rw [Bool.true_and] at Hsk
     have hcn := hhas.out
     have hcn2 := hcn.symm
     rw [decide_eq_true_eq] at hcn2
     obtain ⟨cn, rfl⟩ := Int.eq_ofNat_of_zero_le hcn2.1
     have hcl : cn < x.cls.length := by omega
     have hcni : ((cn : Nat) : Int) < (x.cls.length : Int) := by omega
     obtain ⟨hst, hc2⟩ := hCl.out cn hcl
     rw [hst] at Hsk
     clear hcn hcn2 hst hCl hhas
     have hC2 : Hid (∀ V, Fr No V1 V → ∃ ae, x.cA = some ae ∧ V.cell? ⟨(ae.add (cn * 5)).block, (ae.add (cn * 5)).off + 2, none⟩ = some (.slice x.cls[cn].sA x.cls[cn].steps.length x.cls[cn].sc)) := Lib.hid (fun V hV => by
      obtain ⟨ae, e1, -, -, -, c2, -, -⟩ := hc2 V (HFV.out V hV)
      exact ⟨ae, e1, c2⟩)
     obtain ⟨ae, hae, -⟩ := hC2.out _ (Fr.refl _ _)
     have hC3 : Hid (∀ V, Fr No V1 V → V.cell? ⟨(ae.add (cn * 5)).block, (ae.add (cn * 5)).off + 2, none⟩ = some (.slice x.cls[cn].sA x.cls[cn].steps.length x.cls[cn].sc)) := Lib.hid (fun V hV => by
      obtain ⟨af, e1, c2⟩ := hC2.out V hV
      rw [hae] at e1
      injection e1 with e1
      rw [e1]
      exact c2)
     rw [hae] at HSS
     clear hc2 hC2
     generalize x.cls[cn].steps.length = L at *
     generalize x.cls[cn].sA = sA at *
     generalize x.cls[cn].sc = sc at *
     have HSS2 : Hid (∀ V, Fr No V1 V → (fun V => LdO V 26 ⟨w.heap.size, 0, none⟩ (.agg Z) ∧ V.cell? ⟨w.heap.size, 0, none⟩ = some (.slice (some ae) x.cls.length x.cc) ∧ V.cell? ⟨P, 0, none⟩ = some (.int .i64 sa) ∧ V.cell? ⟨P, 1, none⟩ = some (.int .i64 (cn : Int)) ∧ V.cell? ⟨P, 2, none⟩ = some (.int .i64 ta) ∧ V.cell? ⟨P, 4, none⟩ = some (.slice Ra na rca) ∧ V.cell? ⟨P, 5, none⟩ = some (.slice Va ma wca) ∧ V.cell? ⟨(ae.add (cn * 5)).block, (ae.add (cn * 5)).off + 2, none⟩ = some (.slice sA L sc)) V) := Lib.hid (fun V hV => by
      obtain ⟨t1, t2, t3, t4, t5, t6, t7⟩ := HSS.out V hV
      exact ⟨t1, t2, t3, t4, t5, t6, t7, hC3.out V hV⟩)
     clear HSS hC3
     cases b3
     ·refine wp_region_held_drew (S := fun V => LdO V 26 ⟨w.heap.size, 0, none⟩ (.agg Z) ∧ V.cell? ⟨w.heap.size, 0, none⟩ = some (.slice (some ae) x.cls.length x.cc) ∧ V.cell? ⟨P, 0, none⟩ = some (.int .i64 sa) ∧ V.cell? ⟨P, 1, none⟩ = some (.int .i64 (cn : Int)) ∧ V.cell? ⟨P, 2, none⟩ = some (.int .i64 ta) ∧ V.cell? ⟨P, 4, none⟩ = some (.slice Ra na rca) ∧ V.cell? ⟨P, 5, none⟩ = some (.slice Va ma wca) ∧ V.cell? ⟨(ae.add (cn * 5)).block, (ae.add (cn * 5)).off + 2, none⟩ = some (.slice sA L sc)) (by kernel_rfl) (HSS2.out _ D0.out) (fun hHeld => ?_)
      refine any_u 29 (.pointer (some ⟨P, 0, none⟩)) (i := 0) rfl rfl ?_
      simp only [Act.put, szA, szB, szC]
      refine any_u 30 (.int .i64 sa) (i := 1) rfl rfl ?_
      simp only [Act.put, szA, szB, szC]
      refine any_u 31 (.bool false) (i := 2) rfl rfl ?_
      simp only [Act.put, szA, szB, szC]
      refine any_u 32 (.bool false) (i := 3) rfl rfl ?_
      simp only [Act.put, szA, szB, szC]
      refine any_tk 33 (.agg Z) (i := 4) rfl rfl (by kernel_rfl) (fun _ _ _ h => h) (by rfl) (by intro w hSw; exact exec_ld rfl hSw.1) (by assumption) ?_
      simp only [Act.put, szA, szB, szC]
      refine any_u 34 (.pointer (some ⟨P, 1, none⟩)) (i := 5) rfl rfl ?_
      simp only [Act.put, szA, szB, szC]
      refine any_u 35 (.int .i64 (cn : Int)) (i := 6) rfl rfl ?_
      simp only [Act.put, szA, szB, szC]
      refine wpAnyH_ready (rs := [7]) (by kernel_rfl) (by simp) ?_
      refine AllReadyH.cons rfl (fun K' hK => ?_) AllReadyH.nil
      go_simp
      go_at_call 22
      refine (hT.out _).mono ?_
      rintro e' w2 ⟨rfl, f2⟩
      have D2 := Lib.hid (D0.out.trans' f2 (fun _ _ e => e))
      clear f2
      dsimp only
      refine hK.out _ _ (HSS2.out _ D2.out) (fun hHeld => ?_)
      clear hK
      try simp only [Act.put, szA, szB, szC]
      refine any_u 37 (.bool false) (i := 8) rfl rfl ?_
      simp only [Act.put, szA, szB, szC]
      refine any_u 38 (.bool false) (i := 9) rfl rfl ?_
      simp only [Act.put, szA, szB, szC]
      refine any_u 39 (.bool false) (i := 10) rfl rfl ?_
      simp only [Act.put, szA, szB, szC]
      refine any_u 40 (.pointer (some ⟨P, 4, none⟩)) (i := 11) rfl rfl ?_
      simp only [Act.put, szA, szB, szC]
      refine any_u 41 (.slice Ra na rca) (i := 12) rfl rfl ?_
      simp only [Act.put, szA, szB, szC]
      refine wpAnyH_ready (rs := [13]) (by kernel_rfl) (by simp) ?_
      refine AllReadyH.cons rfl (fun K' hK => ?_) AllReadyH.nil
      go_simp
      go_at_call 23
      refine (hS1.out _ (HFV.out _ D2.out)).mono ?_
      rintro e' w3 ⟨rfl, f3⟩
      have D3 := Lib.hid (D2.out.trans' f3 (fun _ _ e => e))
      clear f3
      dsimp only
      refine hK.out _ _ (HSS2.out _ D3.out) (fun hHeld => ?_)
      clear hK
      try simp only [Act.put, szA, szB, szC]
      refine any_u 43 (.bool true) (i := 14) rfl rfl ?_
      simp only [Act.put, szA, szB, szC]
      refine any_u 44 (.bool true) (i := 15) rfl rfl ?_
      simp only [Act.put, szA, szB, szC]
      refine any_u 45 (.bool true) (i := 16) rfl rfl ?_
      simp only [Act.put, szA, szB, szC]
      refine any_v 46 (i := 17) rfl rfl ?_
      simp only [Act.put, szA, szB, szC]
      refine any_v 47 (i := 18) rfl rfl ?_
      simp only [Act.put, szA, szB, szC]
      refine any_v 48 (i := 19) rfl rfl ?_
      simp only [Act.put, szA, szB, szC]
      refine any_v 49 (i := 20) rfl rfl ?_
      simp only [Act.put, szA, szB, szC]
      refine any_u 50 (.bool true) (i := 21) rfl rfl ?_
      simp only [Act.put, szA, szB, szC]
      refine any_u 51 (.bool true) (i := 22) rfl rfl ?_
      simp only [Act.put, szA, szB, szC]
      refine any_v 52 (i := 23) rfl rfl ?_
      simp only [Act.put, szA, szB, szC]
      refine any_v 53 (i := 24) rfl rfl ?_
      simp only [Act.put, szA, szB, szC]
      refine any_v 54 (i := 25) rfl rfl ?_
      simp only [Act.put, szA, szB, szC]
      refine any_u 55 (.bool true) (i := 26) rfl rfl ?_
      simp only [Act.put, szA, szB, szC]
      refine any_u 56 (.bool true) (i := 27) rfl rfl ?_
      simp only [Act.put, szA, szB, szC]
      refine any_v 57 (i := 28) rfl rfl ?_
      simp only [Act.put, szA, szB, szC]
      refine any_v 58 (i := 29) rfl rfl ?_
      simp only [Act.put, szA, szB, szC]
      refine any_v 59 (i := 30) rfl rfl ?_
      simp only [Act.put, szA, szB, szC]
      refine any_v 60 (i := 31) rfl rfl ?_
      simp only [Act.put, szA, szB, szC]
      refine any_v 61 (i := 32) rfl rfl ?_
      simp only [Act.put, szA, szB, szC]
      refine any_v 62 (i := 33) rfl rfl ?_
      simp only [Act.put, szA, szB, szC]
      refine any_v 63 (i := 34) rfl rfl ?_
      simp only [Act.put, szA, szB, szC]
      refine any_v 64 (i := 35) rfl rfl ?_
      simp only [Act.put, szA, szB, szC]
      refine any_v 65 (i := 36) rfl rfl ?_
      simp only [Act.put, szA, szB, szC]
      refine any_v 66 (i := 37) rfl rfl ?_
      simp only [Act.put, szA, szB, szC]
      refine any_v 67 (i := 38) rfl rfl ?_
      simp only [Act.put, szA, szB, szC]
      refine any_u 68 (.bool true) (i := 39) rfl rfl ?_
      simp only [Act.put, szA, szB, szC]
      refine wpAnyH_done (by kernel_rfl) ?_ _
      clear hHeld
      go_wp2
      go_meet
      exact ⟨by rw [← Hsk.out]; first | rfl | (simp; done) | (simp [*]; done), D3⟩
     rw [Bool.true_and] at Hsk
     cases b4
     ·refine wp_region_held_drew (S := fun V => LdO V 26 ⟨w.heap.size, 0, none⟩ (.agg Z) ∧ V.cell? ⟨w.heap.size, 0, none⟩ = some (.slice (some ae) x.cls.length x.cc) ∧ V.cell? ⟨P, 0, none⟩ = some (.int .i64 sa) ∧ V.cell? ⟨P, 1, none⟩ = some (.int .i64 (cn : Int)) ∧ V.cell? ⟨P, 2, none⟩ = some (.int .i64 ta) ∧ V.cell? ⟨P, 4, none⟩ = some (.slice Ra na rca) ∧ V.cell? ⟨P, 5, none⟩ = some (.slice Va ma wca) ∧ V.cell? ⟨(ae.add (cn * 5)).block, (ae.add (cn * 5)).off + 2, none⟩ = some (.slice sA L sc)) (by kernel_rfl) (HSS2.out _ D0.out) (fun hHeld => ?_)
      refine any_u 29 (.pointer (some ⟨P, 0, none⟩)) (i := 0) rfl rfl ?_
      simp only [Act.put, szA, szB, szC]
      refine any_u 30 (.int .i64 sa) (i := 1) rfl rfl ?_
      simp only [Act.put, szA, szB, szC]
      refine any_u 31 (.bool false) (i := 2) rfl rfl ?_
      simp only [Act.put, szA, szB, szC]
      refine any_u 32 (.bool false) (i := 3) rfl rfl ?_
      simp only [Act.put, szA, szB, szC]
      refine any_tk 33 (.agg Z) (i := 4) rfl rfl (by kernel_rfl) (fun _ _ _ h => h) (by rfl) (by intro w hSw; exact exec_ld rfl hSw.1) (by assumption) ?_
      simp only [Act.put, szA, szB, szC]
      refine any_u 34 (.pointer (some ⟨P, 1, none⟩)) (i := 5) rfl rfl ?_
      simp only [Act.put, szA, szB, szC]
      refine any_u 35 (.int .i64 (cn : Int)) (i := 6) rfl rfl ?_
      simp only [Act.put, szA, szB, szC]
      refine wpAnyH_ready (rs := [7]) (by kernel_rfl) (by simp) ?_
      refine AllReadyH.cons rfl (fun K' hK => ?_) AllReadyH.nil
      go_simp
      go_at_call 22
      refine (hT.out _).mono ?_
      rintro e' w2 ⟨rfl, f2⟩
      have D2 := Lib.hid (D0.out.trans' f2 (fun _ _ e => e))
      clear f2
      dsimp only
      refine hK.out _ _ (HSS2.out _ D2.out) (fun hHeld => ?_)
      clear hK
      try simp only [Act.put, szA, szB, szC]
      refine any_u 37 (.bool false) (i := 8) rfl rfl ?_
      simp only [Act.put, szA, szB, szC]
      refine any_u 38 (.bool false) (i := 9) rfl rfl ?_
      simp only [Act.put, szA, szB, szC]
      refine any_u 39 (.bool false) (i := 10) rfl rfl ?_
      simp only [Act.put, szA, szB, szC]
      refine any_u 40 (.pointer (some ⟨P, 4, none⟩)) (i := 11) rfl rfl ?_
      simp only [Act.put, szA, szB, szC]
      refine any_u 41 (.slice Ra na rca) (i := 12) rfl rfl ?_
      simp only [Act.put, szA, szB, szC]
      refine wpAnyH_ready (rs := [13]) (by kernel_rfl) (by simp) ?_
      refine AllReadyH.cons rfl (fun K' hK => ?_) AllReadyH.nil
      go_simp
      go_at_call 23
      refine (hS1.out _ (HFV.out _ D2.out)).mono ?_
      rintro e' w3 ⟨rfl, f3⟩
      have D3 := Lib.hid (D2.out.trans' f3 (fun _ _ e => e))
      clear f3
      dsimp only
      refine hK.out _ _ (HSS2.out _ D3.out) (fun hHeld => ?_)
      clear hK
      try simp only [Act.put, szA, szB, szC]
      refine any_u 43 (.bool false) (i := 14) rfl rfl ?_
      simp only [Act.put, szA, szB, szC]
      refine any_u 44 (.bool false) (i := 15) rfl rfl ?_
      simp only [Act.put, szA, szB, szC]
      refine any_u 45 (.bool false) (i := 16) rfl rfl ?_
      simp only [Act.put, szA, szB, szC]
      refine any_u 46 (.pointer (some ⟨P, 5, none⟩)) (i := 17) rfl rfl ?_
      simp only [Act.put, szA, szB, szC]
      refine any_u 47 (.slice Va ma wca) (i := 18) rfl rfl ?_
      simp only [Act.put, szA, szB, szC]
      refine wpAnyH_ready (rs := [19]) (by kernel_rfl) (by simp) ?_
      refine AllReadyH.cons rfl (fun K' hK => ?_) AllReadyH.nil
      go_simp
      go_at_call 23
      refine (hS2.out _ (HFV.out _ D3.out)).mono ?_
      rintro e' w4 ⟨rfl, f4⟩
      have D4 := Lib.hid (D3.out.trans' f4 (fun _ _ e => e))
      clear f4
      dsimp only
      refine hK.out _ _ (HSS2.out _ D4.out) (fun hHeld => ?_)
      clear hK
      try simp only [Act.put, szA, szB, szC]
      refine any_u 49 (.bool true) (i := 20) rfl rfl ?_
      simp only [Act.put, szA, szB, szC]
      refine any_u 50 (.bool true) (i := 21) rfl rfl ?_
      simp only [Act.put, szA, szB, szC]
      refine any_u 51 (.bool true) (i := 22) rfl rfl ?_
      simp only [Act.put, szA, szB, szC]
      refine any_v 52 (i := 23) rfl rfl ?_
      simp only [Act.put, szA, szB, szC]
      refine any_v 53 (i := 24) rfl rfl ?_
      simp only [Act.put, szA, szB, szC]
      refine any_v 54 (i := 25) rfl rfl ?_
      simp only [Act.put, szA, szB, szC]
      refine any_u 55 (.bool true) (i := 26) rfl rfl ?_
      simp only [Act.put, szA, szB, szC]
      refine any_u 56 (.bool true) (i := 27) rfl rfl ?_
      simp only [Act.put, szA, szB, szC]
      refine any_v 57 (i := 28) rfl rfl ?_
      simp only [Act.put, szA, szB, szC]
      refine any_v 58 (i := 29) rfl rfl ?_
      simp only [Act.put, szA, szB, szC]
      refine any_v 59 (i := 30) rfl rfl ?_
      simp only [Act.put, szA, szB, szC]
      refine any_v 60 (i := 31) rfl rfl ?_
      simp only [Act.put, szA, szB, szC]
      refine any_v 61 (i := 32) rfl rfl ?_
      simp only [Act.put, szA, szB, szC]
      refine any_v 62 (i := 33) rfl rfl ?_
      simp only [Act.put, szA, szB, szC]
      refine any_v 63 (i := 34) rfl rfl ?_
      simp only [Act.put, szA, szB, szC]
      refine any_v 64 (i := 35) rfl rfl ?_
      simp only [Act.put, szA, szB, szC]
      refine any_v 65 (i := 36) rfl rfl ?_
      simp only [Act.put, szA, szB, szC]
      refine any_v 66 (i := 37) rfl rfl ?_
      simp only [Act.put, szA, szB, szC]
      refine any_v 67 (i := 38) rfl rfl ?_
      simp only [Act.put, szA, szB, szC]
      refine any_u 68 (.bool true) (i := 39) rfl rfl ?_
      simp only [Act.put, szA, szB, szC]
      refine wpAnyH_done (by kernel_rfl) ?_ _
      clear hHeld
      go_wp2
      go_meet
      exact ⟨by rw [← Hsk.out]; first | rfl | (simp; done) | (simp [*]; done), D4⟩
     rw [Bool.true_and] at Hsk
     by_cases z2 : 0 ≤ ta
     ·have e2 : decide (0 ≤ ta) = true := decide_eq_true z2
      have e2' : decide (ta < 0) = false := decide_eq_false (by omega)
      rw [e2, Bool.true_and] at Hsk
      by_cases z3 : ta < (L : Int)
      ·have e3 : decide (ta < (L : Int)) = true := decide_eq_true z3
       have e3' : decide ((L : Int) ≤ ta) = false := decide_eq_false (by omega)
       rw [e3] at Hsk
       refine wp_region_held_drew (S := fun V => LdO V 26 ⟨w.heap.size, 0, none⟩ (.agg Z) ∧ V.cell? ⟨w.heap.size, 0, none⟩ = some (.slice (some ae) x.cls.length x.cc) ∧ V.cell? ⟨P, 0, none⟩ = some (.int .i64 sa) ∧ V.cell? ⟨P, 1, none⟩ = some (.int .i64 (cn : Int)) ∧ V.cell? ⟨P, 2, none⟩ = some (.int .i64 ta) ∧ V.cell? ⟨P, 4, none⟩ = some (.slice Ra na rca) ∧ V.cell? ⟨P, 5, none⟩ = some (.slice Va ma wca) ∧ V.cell? ⟨(ae.add (cn * 5)).block, (ae.add (cn * 5)).off + 2, none⟩ = some (.slice sA L sc)) (by kernel_rfl) (HSS2.out _ D0.out) (fun hHeld => ?_)
       refine any_u 29 (.pointer (some ⟨P, 0, none⟩)) (i := 0) rfl rfl ?_
       simp only [Act.put, szA, szB, szC]
       refine any_u 30 (.int .i64 sa) (i := 1) rfl rfl ?_
       simp only [Act.put, szA, szB, szC]
       refine any_u 31 (.bool false) (i := 2) rfl rfl ?_
       simp only [Act.put, szA, szB, szC]
       refine any_u 32 (.bool false) (i := 3) rfl rfl ?_
       simp only [Act.put, szA, szB, szC]
       refine any_tk 33 (.agg Z) (i := 4) rfl rfl (by kernel_rfl) (fun _ _ _ h => h) (by rfl) (by intro w hSw; exact exec_ld rfl hSw.1) (by assumption) ?_
       simp only [Act.put, szA, szB, szC]
       refine any_u 34 (.pointer (some ⟨P, 1, none⟩)) (i := 5) rfl rfl ?_
       simp only [Act.put, szA, szB, szC]
       refine any_u 35 (.int .i64 (cn : Int)) (i := 6) rfl rfl ?_
       simp only [Act.put, szA, szB, szC]
       refine wpAnyH_ready (rs := [7]) (by kernel_rfl) (by simp) ?_
       refine AllReadyH.cons rfl (fun K' hK => ?_) AllReadyH.nil
       go_simp
       go_at_call 22
       refine (hT.out _).mono ?_
       rintro e' w2 ⟨rfl, f2⟩
       have D2 := Lib.hid (D0.out.trans' f2 (fun _ _ e => e))
       clear f2
       dsimp only
       refine hK.out _ _ (HSS2.out _ D2.out) (fun hHeld => ?_)
       clear hK
       try simp only [Act.put, szA, szB, szC]
       refine any_u 37 (.bool false) (i := 8) rfl rfl ?_
       simp only [Act.put, szA, szB, szC]
       refine any_u 38 (.bool false) (i := 9) rfl rfl ?_
       simp only [Act.put, szA, szB, szC]
       refine any_u 39 (.bool false) (i := 10) rfl rfl ?_
       simp only [Act.put, szA, szB, szC]
       refine any_u 40 (.pointer (some ⟨P, 4, none⟩)) (i := 11) rfl rfl ?_
       simp only [Act.put, szA, szB, szC]
       refine any_u 41 (.slice Ra na rca) (i := 12) rfl rfl ?_
       simp only [Act.put, szA, szB, szC]
       refine wpAnyH_ready (rs := [13]) (by kernel_rfl) (by simp) ?_
       refine AllReadyH.cons rfl (fun K' hK => ?_) AllReadyH.nil
       go_simp
       go_at_call 23
       refine (hS1.out _ (HFV.out _ D2.out)).mono ?_
       rintro e' w3 ⟨rfl, f3⟩
       have D3 := Lib.hid (D2.out.trans' f3 (fun _ _ e => e))
       clear f3
       dsimp only
       refine hK.out _ _ (HSS2.out _ D3.out) (fun hHeld => ?_)
       clear hK
       try simp only [Act.put, szA, szB, szC]
       refine any_u 43 (.bool false) (i := 14) rfl rfl ?_
       simp only [Act.put, szA, szB, szC]
       refine any_u 44 (.bool false) (i := 15) rfl rfl ?_
       simp only [Act.put, szA, szB, szC]
       refine any_u 45 (.bool false) (i := 16) rfl rfl ?_
       simp only [Act.put, szA, szB, szC]
       refine any_u 46 (.pointer (some ⟨P, 5, none⟩)) (i := 17) rfl rfl ?_
       simp only [Act.put, szA, szB, szC]
       refine any_u 47 (.slice Va ma wca) (i := 18) rfl rfl ?_
       simp only [Act.put, szA, szB, szC]
       refine wpAnyH_ready (rs := [19]) (by kernel_rfl) (by simp) ?_
       refine AllReadyH.cons rfl (fun K' hK => ?_) AllReadyH.nil
       go_simp
       go_at_call 23
       refine (hS2.out _ (HFV.out _ D3.out)).mono ?_
       rintro e' w4 ⟨rfl, f4⟩
       have D4 := Lib.hid (D3.out.trans' f4 (fun _ _ e => e))
       clear f4
       dsimp only
       refine hK.out _ _ (HSS2.out _ D4.out) (fun hHeld => ?_)
       clear hK
       try simp only [Act.put, szA, szB, szC]
       refine any_u 49 (.bool false) (i := 20) rfl rfl ?_
       simp only [Act.put, szA, szB, szC]
       refine any_u 50 (.bool false) (i := 21) rfl rfl ?_
       simp only [Act.put, szA, szB, szC]
       refine any_u 51 (.bool false) (i := 22) rfl rfl ?_
       simp only [Act.put, szA, szB, szC]
       refine any_u 52 (.pointer (some ⟨P, 2, none⟩)) (i := 23) rfl rfl ?_
       simp only [Act.put, szA, szB, szC]
       refine any_u 53 (.int .i64 ta) (i := 24) rfl rfl ?_
       simp only [Act.put, szA, szB, szC]
       refine any_u 54 (.bool false) (i := 25) rfl rfl ?_
       simp only [Act.put, szA, szB, szC]
       refine any_u 55 (.bool false) (i := 26) rfl rfl ?_
       simp only [Act.put, szA, szB, szC]
       refine any_u 56 (.bool false) (i := 27) rfl rfl ?_
       simp only [Act.put, szA, szB, szC]
       refine any_u 57 (.pointer (some ⟨P, 2, none⟩)) (i := 28) rfl rfl ?_
       simp only [Act.put, szA, szB, szC]
       refine any_u 58 (.int .i64 ta) (i := 29) rfl rfl ?_
       simp only [Act.put, szA, szB, szC]
       refine any_u 59 (.pointer (some ⟨w.heap.size, 0, none⟩)) (i := 30) rfl rfl ?_
       simp only [Act.put, szA, szB, szC]
       refine any_u 60 (.slice (some ae) x.cls.length x.cc) (i := 31) rfl rfl ?_
       simp only [Act.put, szA, szB, szC]
       refine any_u 61 (.pointer (some ⟨P, 1, none⟩)) (i := 32) rfl rfl ?_
       simp only [Act.put, szA, szB, szC]
       refine any_u 62 (.int .i64 (cn : Int)) (i := 33) rfl rfl ?_
       simp only [Act.put, szA, szB, szC]
       refine any_u 63 (.pointer (some (ae.add (cn * 5)))) (i := 34) rfl rfl ?_
       simp only [Act.put, szA, szB, szC]
       refine any_u 64 (.pointer (some ⟨(ae.add (cn * 5)).block, (ae.add (cn * 5)).off + 2, none⟩)) (i := 35) rfl rfl ?_
       simp only [Act.put, szA, szB, szC]
       refine any_u 65 (.slice sA L sc) (i := 36) rfl rfl ?_
       simp only [Act.put, szA, szB, szC]
       refine any_u 66 (.int .i64 (L : Int)) (i := 37) rfl rfl ?_
       simp only [Act.put, szA, szB, szC]
       refine any_u 67 (.bool false) (i := 38) rfl rfl ?_
       simp only [Act.put, szA, szB, szC]
       refine any_u 68 (.bool false) (i := 39) rfl rfl ?_
       simp only [Act.put, szA, szB, szC]
       refine wpAnyH_done (by kernel_rfl) ?_ _
       clear hHeld
       go_wp2
       go_meet
       exact ⟨by rw [← Hsk.out]; first | rfl | (simp; done) | (simp [*]; done), D4⟩
      ·have e3 : decide (ta < (L : Int)) = false := decide_eq_false z3
       have e3' : decide ((L : Int) ≤ ta) = true := decide_eq_true (by omega)
       rw [e3] at Hsk
       refine wp_region_held_drew (S := fun V => LdO V 26 ⟨w.heap.size, 0, none⟩ (.agg Z) ∧ V.cell? ⟨w.heap.size, 0, none⟩ = some (.slice (some ae) x.cls.length x.cc) ∧ V.cell? ⟨P, 0, none⟩ = some (.int .i64 sa) ∧ V.cell? ⟨P, 1, none⟩ = some (.int .i64 (cn : Int)) ∧ V.cell? ⟨P, 2, none⟩ = some (.int .i64 ta) ∧ V.cell? ⟨P, 4, none⟩ = some (.slice Ra na rca) ∧ V.cell? ⟨P, 5, none⟩ = some (.slice Va ma wca) ∧ V.cell? ⟨(ae.add (cn * 5)).block, (ae.add (cn * 5)).off + 2, none⟩ = some (.slice sA L sc)) (by kernel_rfl) (HSS2.out _ D0.out) (fun hHeld => ?_)
       refine any_u 29 (.pointer (some ⟨P, 0, none⟩)) (i := 0) rfl rfl ?_
       simp only [Act.put, szA, szB, szC]
       refine any_u 30 (.int .i64 sa) (i := 1) rfl rfl ?_
       simp only [Act.put, szA, szB, szC]
       refine any_u 31 (.bool false) (i := 2) rfl rfl ?_
       simp only [Act.put, szA, szB, szC]
       refine any_u 32 (.bool false) (i := 3) rfl rfl ?_
       simp only [Act.put, szA, szB, szC]
       refine any_tk 33 (.agg Z) (i := 4) rfl rfl (by kernel_rfl) (fun _ _ _ h => h) (by rfl) (by intro w hSw; exact exec_ld rfl hSw.1) (by assumption) ?_
       simp only [Act.put, szA, szB, szC]
       refine any_u 34 (.pointer (some ⟨P, 1, none⟩)) (i := 5) rfl rfl ?_
       simp only [Act.put, szA, szB, szC]
       refine any_u 35 (.int .i64 (cn : Int)) (i := 6) rfl rfl ?_
       simp only [Act.put, szA, szB, szC]
       refine wpAnyH_ready (rs := [7]) (by kernel_rfl) (by simp) ?_
       refine AllReadyH.cons rfl (fun K' hK => ?_) AllReadyH.nil
       go_simp
       go_at_call 22
       refine (hT.out _).mono ?_
       rintro e' w2 ⟨rfl, f2⟩
       have D2 := Lib.hid (D0.out.trans' f2 (fun _ _ e => e))
       clear f2
       dsimp only
       refine hK.out _ _ (HSS2.out _ D2.out) (fun hHeld => ?_)
       clear hK
       try simp only [Act.put, szA, szB, szC]
       refine any_u 37 (.bool false) (i := 8) rfl rfl ?_
       simp only [Act.put, szA, szB, szC]
       refine any_u 38 (.bool false) (i := 9) rfl rfl ?_
       simp only [Act.put, szA, szB, szC]
       refine any_u 39 (.bool false) (i := 10) rfl rfl ?_
       simp only [Act.put, szA, szB, szC]
       refine any_u 40 (.pointer (some ⟨P, 4, none⟩)) (i := 11) rfl rfl ?_
       simp only [Act.put, szA, szB, szC]
       refine any_u 41 (.slice Ra na rca) (i := 12) rfl rfl ?_
       simp only [Act.put, szA, szB, szC]
       refine wpAnyH_ready (rs := [13]) (by kernel_rfl) (by simp) ?_
       refine AllReadyH.cons rfl (fun K' hK => ?_) AllReadyH.nil
       go_simp
       go_at_call 23
       refine (hS1.out _ (HFV.out _ D2.out)).mono ?_
       rintro e' w3 ⟨rfl, f3⟩
       have D3 := Lib.hid (D2.out.trans' f3 (fun _ _ e => e))
       clear f3
       dsimp only
       refine hK.out _ _ (HSS2.out _ D3.out) (fun hHeld => ?_)
       clear hK
       try simp only [Act.put, szA, szB, szC]
       refine any_u 43 (.bool false) (i := 14) rfl rfl ?_
       simp only [Act.put, szA, szB, szC]
       refine any_u 44 (.bool false) (i := 15) rfl rfl ?_
       simp only [Act.put, szA, szB, szC]
       refine any_u 45 (.bool false) (i := 16) rfl rfl ?_
       simp only [Act.put, szA, szB, szC]
       refine any_u 46 (.pointer (some ⟨P, 5, none⟩)) (i := 17) rfl rfl ?_
       simp only [Act.put, szA, szB, szC]
       refine any_u 47 (.slice Va ma wca) (i := 18) rfl rfl ?_
       simp only [Act.put, szA, szB, szC]
       refine wpAnyH_ready (rs := [19]) (by kernel_rfl) (by simp) ?_
       refine AllReadyH.cons rfl (fun K' hK => ?_) AllReadyH.nil
       go_simp
       go_at_call 23
       refine (hS2.out _ (HFV.out _ D3.out)).mono ?_
       rintro e' w4 ⟨rfl, f4⟩
       have D4 := Lib.hid (D3.out.trans' f4 (fun _ _ e => e))
       clear f4
       dsimp only
       refine hK.out _ _ (HSS2.out _ D4.out) (fun hHeld => ?_)
       clear hK
       try simp only [Act.put, szA, szB, szC]
       refine any_u 49 (.bool false) (i := 20) rfl rfl ?_
       simp only [Act.put, szA, szB, szC]
       refine any_u 50 (.bool false) (i := 21) rfl rfl ?_
       simp only [Act.put, szA, szB, szC]
       refine any_u 51 (.bool false) (i := 22) rfl rfl ?_
       simp only [Act.put, szA, szB, szC]
       refine any_u 52 (.pointer (some ⟨P, 2, none⟩)) (i := 23) rfl rfl ?_
       simp only [Act.put, szA, szB, szC]
       refine any_u 53 (.int .i64 ta) (i := 24) rfl rfl ?_
       simp only [Act.put, szA, szB, szC]
       refine any_u 54 (.bool false) (i := 25) rfl rfl ?_
       simp only [Act.put, szA, szB, szC]
       refine any_u 55 (.bool false) (i := 26) rfl rfl ?_
       simp only [Act.put, szA, szB, szC]
       refine any_u 56 (.bool false) (i := 27) rfl rfl ?_
       simp only [Act.put, szA, szB, szC]
       refine any_u 57 (.pointer (some ⟨P, 2, none⟩)) (i := 28) rfl rfl ?_
       simp only [Act.put, szA, szB, szC]
       refine any_u 58 (.int .i64 ta) (i := 29) rfl rfl ?_
       simp only [Act.put, szA, szB, szC]
       refine any_u 59 (.pointer (some ⟨w.heap.size, 0, none⟩)) (i := 30) rfl rfl ?_
       simp only [Act.put, szA, szB, szC]
       refine any_u 60 (.slice (some ae) x.cls.length x.cc) (i := 31) rfl rfl ?_
       simp only [Act.put, szA, szB, szC]
       refine any_u 61 (.pointer (some ⟨P, 1, none⟩)) (i := 32) rfl rfl ?_
       simp only [Act.put, szA, szB, szC]
       refine any_u 62 (.int .i64 (cn : Int)) (i := 33) rfl rfl ?_
       simp only [Act.put, szA, szB, szC]
       refine any_u 63 (.pointer (some (ae.add (cn * 5)))) (i := 34) rfl rfl ?_
       simp only [Act.put, szA, szB, szC]
       refine any_u 64 (.pointer (some ⟨(ae.add (cn * 5)).block, (ae.add (cn * 5)).off + 2, none⟩)) (i := 35) rfl rfl ?_
       simp only [Act.put, szA, szB, szC]
       refine any_u 65 (.slice sA L sc) (i := 36) rfl rfl ?_
       simp only [Act.put, szA, szB, szC]
       refine any_u 66 (.int .i64 (L : Int)) (i := 37) rfl rfl ?_
       simp only [Act.put, szA, szB, szC]
       refine any_u 67 (.bool true) (i := 38) rfl rfl ?_
       simp only [Act.put, szA, szB, szC]
       refine any_u 68 (.bool true) (i := 39) rfl rfl ?_
       simp only [Act.put, szA, szB, szC]
       refine wpAnyH_done (by kernel_rfl) ?_ _
       clear hHeld
       go_wp2
       go_meet
       exact ⟨by rw [← Hsk.out]; first | rfl | (simp; done) | (simp [*]; done), D4⟩
     ·have e2 : decide (0 ≤ ta) = false := decide_eq_false z2
      have e2' : decide (ta < 0) = true := decide_eq_true (by omega)
      rw [e2, Bool.false_and] at Hsk
      refine wp_region_held_drew (S := fun V => LdO V 26 ⟨w.heap.size, 0, none⟩ (.agg Z) ∧ V.cell? ⟨w.heap.size, 0, none⟩ = some (.slice (some ae) x.cls.length x.cc) ∧ V.cell? ⟨P, 0, none⟩ = some (.int .i64 sa) ∧ V.cell? ⟨P, 1, none⟩ = some (.int .i64 (cn : Int)) ∧ V.cell? ⟨P, 2, none⟩ = some (.int .i64 ta) ∧ V.cell? ⟨P, 4, none⟩ = some (.slice Ra na rca) ∧ V.cell? ⟨P, 5, none⟩ = some (.slice Va ma wca) ∧ V.cell? ⟨(ae.add (cn * 5)).block, (ae.add (cn * 5)).off + 2, none⟩ = some (.slice sA L sc)) (by kernel_rfl) (HSS2.out _ D0.out) (fun hHeld => ?_)
      refine any_u 29 (.pointer (some ⟨P, 0, none⟩)) (i := 0) rfl rfl ?_
      simp only [Act.put, szA, szB, szC]
      refine any_u 30 (.int .i64 sa) (i := 1) rfl rfl ?_
      simp only [Act.put, szA, szB, szC]
      refine any_u 31 (.bool false) (i := 2) rfl rfl ?_
      simp only [Act.put, szA, szB, szC]
      refine any_u 32 (.bool false) (i := 3) rfl rfl ?_
      simp only [Act.put, szA, szB, szC]
      refine any_tk 33 (.agg Z) (i := 4) rfl rfl (by kernel_rfl) (fun _ _ _ h => h) (by rfl) (by intro w hSw; exact exec_ld rfl hSw.1) (by assumption) ?_
      simp only [Act.put, szA, szB, szC]
      refine any_u 34 (.pointer (some ⟨P, 1, none⟩)) (i := 5) rfl rfl ?_
      simp only [Act.put, szA, szB, szC]
      refine any_u 35 (.int .i64 (cn : Int)) (i := 6) rfl rfl ?_
      simp only [Act.put, szA, szB, szC]
      refine wpAnyH_ready (rs := [7]) (by kernel_rfl) (by simp) ?_
      refine AllReadyH.cons rfl (fun K' hK => ?_) AllReadyH.nil
      go_simp
      go_at_call 22
      refine (hT.out _).mono ?_
      rintro e' w2 ⟨rfl, f2⟩
      have D2 := Lib.hid (D0.out.trans' f2 (fun _ _ e => e))
      clear f2
      dsimp only
      refine hK.out _ _ (HSS2.out _ D2.out) (fun hHeld => ?_)
      clear hK
      try simp only [Act.put, szA, szB, szC]
      refine any_u 37 (.bool false) (i := 8) rfl rfl ?_
      simp only [Act.put, szA, szB, szC]
      refine any_u 38 (.bool false) (i := 9) rfl rfl ?_
      simp only [Act.put, szA, szB, szC]
      refine any_u 39 (.bool false) (i := 10) rfl rfl ?_
      simp only [Act.put, szA, szB, szC]
      refine any_u 40 (.pointer (some ⟨P, 4, none⟩)) (i := 11) rfl rfl ?_
      simp only [Act.put, szA, szB, szC]
      refine any_u 41 (.slice Ra na rca) (i := 12) rfl rfl ?_
      simp only [Act.put, szA, szB, szC]
      refine wpAnyH_ready (rs := [13]) (by kernel_rfl) (by simp) ?_
      refine AllReadyH.cons rfl (fun K' hK => ?_) AllReadyH.nil
      go_simp
      go_at_call 23
      refine (hS1.out _ (HFV.out _ D2.out)).mono ?_
      rintro e' w3 ⟨rfl, f3⟩
      have D3 := Lib.hid (D2.out.trans' f3 (fun _ _ e => e))
      clear f3
      dsimp only
      refine hK.out _ _ (HSS2.out _ D3.out) (fun hHeld => ?_)
      clear hK
      try simp only [Act.put, szA, szB, szC]
      refine any_u 43 (.bool false) (i := 14) rfl rfl ?_
      simp only [Act.put, szA, szB, szC]
      refine any_u 44 (.bool false) (i := 15) rfl rfl ?_
      simp only [Act.put, szA, szB, szC]
      refine any_u 45 (.bool false) (i := 16) rfl rfl ?_
      simp only [Act.put, szA, szB, szC]
      refine any_u 46 (.pointer (some ⟨P, 5, none⟩)) (i := 17) rfl rfl ?_
      simp only [Act.put, szA, szB, szC]
      refine any_u 47 (.slice Va ma wca) (i := 18) rfl rfl ?_
      simp only [Act.put, szA, szB, szC]
      refine wpAnyH_ready (rs := [19]) (by kernel_rfl) (by simp) ?_
      refine AllReadyH.cons rfl (fun K' hK => ?_) AllReadyH.nil
      go_simp
      go_at_call 23
      refine (hS2.out _ (HFV.out _ D3.out)).mono ?_
      rintro e' w4 ⟨rfl, f4⟩
      have D4 := Lib.hid (D3.out.trans' f4 (fun _ _ e => e))
      clear f4
      dsimp only
      refine hK.out _ _ (HSS2.out _ D4.out) (fun hHeld => ?_)
      clear hK
      try simp only [Act.put, szA, szB, szC]
      refine any_u 49 (.bool false) (i := 20) rfl rfl ?_
      simp only [Act.put, szA, szB, szC]
      refine any_u 50 (.bool false) (i := 21) rfl rfl ?_
      simp only [Act.put, szA, szB, szC]
      refine any_u 51 (.bool false) (i := 22) rfl rfl ?_
      simp only [Act.put, szA, szB, szC]
      refine any_u 52 (.pointer (some ⟨P, 2, none⟩)) (i := 23) rfl rfl ?_
      simp only [Act.put, szA, szB, szC]
      refine any_u 53 (.int .i64 ta) (i := 24) rfl rfl ?_
      simp only [Act.put, szA, szB, szC]
      refine any_u 54 (.bool true) (i := 25) rfl rfl ?_
      simp only [Act.put, szA, szB, szC]
      refine any_u 55 (.bool true) (i := 26) rfl rfl ?_
      simp only [Act.put, szA, szB, szC]
      refine any_u 56 (.bool true) (i := 27) rfl rfl ?_
      simp only [Act.put, szA, szB, szC]
      refine any_v 57 (i := 28) rfl rfl ?_
      simp only [Act.put, szA, szB, szC]
      refine any_v 58 (i := 29) rfl rfl ?_
      simp only [Act.put, szA, szB, szC]
      refine any_v 59 (i := 30) rfl rfl ?_
      simp only [Act.put, szA, szB, szC]
      refine any_v 60 (i := 31) rfl rfl ?_
      simp only [Act.put, szA, szB, szC]
      refine any_v 61 (i := 32) rfl rfl ?_
      simp only [Act.put, szA, szB, szC]
      refine any_v 62 (i := 33) rfl rfl ?_
      simp only [Act.put, szA, szB, szC]
      refine any_v 63 (i := 34) rfl rfl ?_
      simp only [Act.put, szA, szB, szC]
      refine any_v 64 (i := 35) rfl rfl ?_
      simp only [Act.put, szA, szB, szC]
      refine any_v 65 (i := 36) rfl rfl ?_
      simp only [Act.put, szA, szB, szC]
      refine any_v 66 (i := 37) rfl rfl ?_
      simp only [Act.put, szA, szB, szC]
      refine any_v 67 (i := 38) rfl rfl ?_
      simp only [Act.put, szA, szB, szC]
      refine any_u 68 (.bool true) (i := 39) rfl rfl ?_
      simp only [Act.put, szA, szB, szC]
      refine wpAnyH_done (by kernel_rfl) ?_ _
      clear hHeld
      go_wp2
      go_meet
      exact ⟨by rw [← Hsk.out]; first | rfl | (simp; done) | (simp [*]; done), D4⟩
    ·have e1 : decide (0 ≤ sa) = false := decide_eq_false z1
     have e1' : decide (sa < 0) = true := decide_eq_true (by omega)
     rw [e1, Bool.false_and] at Hsk
     refine wp_region_held_drew (S := fun V => LdO V 26 ⟨w.heap.size, 0, none⟩ (.agg Z) ∧ V.cell? ⟨w.heap.size, 0, none⟩ = some (.slice x.cA x.cls.length x.cc) ∧ V.cell? ⟨P, 0, none⟩ = some (.int .i64 sa) ∧ V.cell? ⟨P, 1, none⟩ = some (.int .i64 ca) ∧ V.cell? ⟨P, 2, none⟩ = some (.int .i64 ta) ∧ V.cell? ⟨P, 4, none⟩ = some (.slice Ra na rca) ∧ V.cell? ⟨P, 5, none⟩ = some (.slice Va ma wca)) (by kernel_rfl) (HSS.out _ D0.out) (fun hHeld => ?_)
     refine any_u 29 (.pointer (some ⟨P, 0, none⟩)) (i := 0) rfl rfl ?_
     simp only [Act.put, szA, szB, szC]
     refine any_u 30 (.int .i64 sa) (i := 1) rfl rfl ?_
     simp only [Act.put, szA, szB, szC]
     refine any_u 31 (.bool true) (i := 2) rfl rfl ?_
     simp only [Act.put, szA, szB, szC]
     refine any_u 32 (.bool true) (i := 3) rfl rfl ?_
     simp only [Act.put, szA, szB, szC]
     refine any_v 33 (i := 4) rfl rfl ?_
     simp only [Act.put, szA, szB, szC]
     refine any_v 34 (i := 5) rfl rfl ?_
     simp only [Act.put, szA, szB, szC]
     refine any_v 35 (i := 6) rfl rfl ?_
     simp only [Act.put, szA, szB, szC]
     refine any_v 36 (i := 7) rfl rfl ?_
     simp only [Act.put, szA, szB, szC]
     refine any_v 37 (i := 8) rfl rfl ?_
     simp only [Act.put, szA, szB, szC]
     refine any_u 38 (.bool true) (i := 9) rfl rfl ?_
     simp only [Act.put, szA, szB, szC]
     refine any_u 39 (.bool true) (i := 10) rfl rfl ?_
     simp only [Act.put, szA, szB, szC]
     refine any_v 40 (i := 11) rfl rfl ?_
     simp only [Act.put, szA, szB, szC]
     refine any_v 41 (i := 12) rfl rfl ?_
     simp only [Act.put, szA, szB, szC]
     refine any_v 42 (i := 13) rfl rfl ?_
     simp only [Act.put, szA, szB, szC]
     refine any_v 43 (i := 14) rfl rfl ?_
     simp only [Act.put, szA, szB, szC]
     refine any_u 44 (.bool true) (i := 15) rfl rfl ?_
     simp only [Act.put, szA, szB, szC]
     refine any_u 45 (.bool true) (i := 16) rfl rfl ?_
     simp only [Act.put, szA, szB, szC]
     refine any_v 46 (i := 17) rfl rfl ?_
     simp only [Act.put, szA, szB, szC]
     refine any_v 47 (i := 18) rfl rfl ?_
     simp only [Act.put, szA, szB, szC]
     refine any_v 48 (i := 19) rfl rfl ?_
     simp only [Act.put, szA, szB, szC]
     refine any_v 49 (i := 20) rfl rfl ?_
     simp only [Act.put, szA, szB, szC]
     refine any_u 50 (.bool true) (i := 21) rfl rfl ?_
     simp only [Act.put, szA, szB, szC]
     refine any_u 51 (.bool true) (i := 22) rfl rfl ?_
     simp only [Act.put, szA, szB, szC]
     refine any_v 52 (i := 23) rfl rfl ?_
     simp only [Act.put, szA, szB, szC]
     refine any_v 53 (i := 24) rfl rfl ?_
     simp only [Act.put, szA, szB, szC]
     refine any_v 54 (i := 25) rfl rfl ?_
     simp only [Act.put, szA, szB, szC]
     refine any_u 55 (.bool true) (i := 26) rfl rfl ?_
     simp only [Act.put, szA, szB, szC]
     refine any_u 56 (.bool true) (i := 27) rfl rfl ?_
     simp only [Act.put, szA, szB, szC]
     refine any_v 57 (i := 28) rfl rfl ?_
     simp only [Act.put, szA, szB, szC]
     refine any_v 58 (i := 29) rfl rfl ?_
     simp only [Act.put, szA, szB, szC]
     refine any_v 59 (i := 30) rfl rfl ?_
     simp only [Act.put, szA, szB, szC]
     refine any_v 60 (i := 31) rfl rfl ?_
     simp only [Act.put, szA, szB, szC]
     refine any_v 61 (i := 32) rfl rfl ?_
     simp only [Act.put, szA, szB, szC]
     refine any_v 62 (i := 33) rfl rfl ?_
     simp only [Act.put, szA, szB, szC]
     refine any_v 63 (i := 34) rfl rfl ?_
     simp only [Act.put, szA, szB, szC]
     refine any_v 64 (i := 35) rfl rfl ?_
     simp only [Act.put, szA, szB, szC]
     refine any_v 65 (i := 36) rfl rfl ?_
     simp only [Act.put, szA, szB, szC]
     refine any_v 66 (i := 37) rfl rfl ?_
     simp only [Act.put, szA, szB, szC]
     refine any_v 67 (i := 38) rfl rfl ?_
     simp only [Act.put, szA, szB, szC]
     refine any_u 68 (.bool true) (i := 39) rfl rfl ?_
     simp only [Act.put, szA, szB, szC]
     refine wpAnyH_done (by kernel_rfl) ?_ _
     clear hHeld
     go_wp2
     go_meet
     exact ⟨by rw [← Hsk.out]; first | rfl | (simp; done) | (simp [*]; done), D0⟩
   case rest =>
    obtain ⟨rfl, D1⟩ := hcut
    clear hT hS1 hS2 hsk Hsk hhas hCl
    cases sk
    ·have HF : Hid (r = false) := Lib.hid (Hb.out (by rw [Hck.out]; rfl))
     clear Hnx Hb Hck
     go_wp2
     go_ret
     exact ⟨by rw [HF.out]; rfl, HF0.out.trans' (FV1.out.trans' D1.out (fun _ _ e => e)) (fun _ _ e => e)⟩
    rw [Bool.true_and] at Hck
    have HFw := Lib.hid (fun V (hV : Fr No V1 V) => HF0.out.trans' (FV1.out.trans' hV (fun _ _ e => e)) (fun _ _ e => e))
    have HSg := Lib.hid (fun (j : Nat) (hj : j < h.length) V (hV : Fr No V1 V) => show V.cell? (ad.add (j * 6)) = some (.int .i64 h[j].n.saga) ∧ ad.block < V.heap.size from by
     obtain ⟨a1, e1, h1, c0, -⟩ := Hnd.out j hj V (HFw.out V hV)
     injection e1 with e1
     rw [e1]
     exact ⟨c0, h1⟩)
    have HP0 := Lib.hid (fun V (hV : Fr No V1 V) => (HbA.out V hV).cell 0)
    have HSt := Lib.hid (fun (j : Nat) (hj : j < h.length) => show lst (j + 1) = if h[j].n.saga = sa then j + 1 else lst j by rw [hLst2.out, Hat.out j hj])
    clear hLst2
    go_wp2
    go_loopw [7, 8] (fun lv jv wx => ∃ (j : Nat) (m : Int), j ≤ k ∧ jv = .int .i64 (j : Int) ∧ lv = .int .i64 m ∧ Hid (m = (lst j : Int) - 1) ∧ Hid (Fr No V1 wx)) (fun _ jv _ => k - (intOf jv).toNat)
    case atStart => exact ⟨0, -1, Nat.zero_le _, rfl, rfl, Lib.hid (by rw [hL00.out]; rfl), D1⟩
    case round =>
     obtain ⟨j, m, hj, rfl, rfl, hm, hfx⟩ := hrel
     by_cases hjk : j < k
     ·have hjl : j < h.length := by omega
      have hjN : ((j : Nat) : Int) < (N : Int) := by omega
      obtain ⟨c0, hab2⟩ := HSg.out j hjl _ hfx.out
      have p0 := HP0.out _ hfx.out
      simp only [List.getElem?_toArray, List.getElem?_cons_zero] at p0
      have hst := Lib.hid (HSt.out j hjl)
      generalize h[j].n.saga = sj at *
      clear Hnd Hat hsm HSg HSt Hck HNk
      by_cases hs : sj = sa
      ·have HM2 : Hid ((j : Int) = (lst (j + 1) : Int) - 1) := Lib.hid (by rw [hst.out, if_pos hs]; omega)
       subst hs
       clear hst hm
       go_wp2
       go_quiet (fail)
       go_wp2
       go_roundw
       case rel => exact ⟨j + 1, (j : Int), by omega, by go_num, rfl, HM2, Lib.hid (hfx.out.drewN _)⟩
       case measure => simp [intOf]; omega
      ·have HM2 : Hid (m = (lst (j + 1) : Int) - 1) := Lib.hid (by rw [hst.out, if_neg hs]; exact hm.out)
       have d1 : decide (sj = sa) = false := decide_eq_false hs
       have d2 : (sj == sa) = false := by simpa using hs
       clear hst hm hs
       go_wp2
       go_quiet (fail)
       go_wp2
       go_roundw
       case rel => exact ⟨j + 1, m, by omega, by go_num, rfl, HM2, Lib.hid (hfx.out.drewN _)⟩
       case measure => simp [intOf]; omega
     ·obtain rfl : j = k := by omega
      have hle := hLe.out j
      have hm2 := hm.out
      clear hm HSg HSt hLe hL00 HP0
      obtain ⟨t, ht⟩ : ∃ t, lst j = t := ⟨_, rfl⟩
      rw [ht] at Hck hle hm2
      clear ht
      by_cases ht0 : t = 0
      ·subst ht0
       have hm3 : m = -1 := by omega
       subst hm3
       have Hck2 : Hid (ck j = (!ka && decide (ta = 0))) := Lib.hid (by rw [Hck.out]; rfl)
       have bxz := HbA.out _ hfx.out
       have q2z := bxz.cell 2
       have q3z := bxz.cell 3
       simp only [List.getElem?_toArray, List.getElem?_cons_zero, List.getElem?_cons_succ] at q2z q3z
       clear bxz hm2 Hck Hnd Hat hsm HNk
       cases ka
       ·by_cases hz : ta = 0
        ·have HS2 := Lib.hid (Hnx.out (by rw [Hck2.out]; simp [hz]))
         subst hz
         clear Hck2 Hnx Hb
         go_wp2
         go_roundw
         case rel => exact ⟨j + 1, by omega, by go_num, HS2, Lib.hid (FV1.out.trans' hfx.out (fun _ _ e => e))⟩
         case measure => simp [intOf]; omega
        ·have HF := Lib.hid (Hb.out (by rw [Hck2.out]; simp [hz]))
         have d1 : decide (ta = 0) = false := decide_eq_false hz
         have d2 : (ta != 0) = true := by simpa using hz
         clear Hck2 Hnx Hb hz
         go_wp2
         go_ret
         exact ⟨by rw [HF.out]; first | rfl | (simp; done), HFw.out _ hfx.out⟩
       ·have HF := Lib.hid (Hb.out (by rw [Hck2.out]; rfl))
        clear Hck2 Hnx Hb
        go_wp2
        go_ret
        exact ⟨by rw [HF.out]; first | rfl | (simp; done), HFw.out _ hfx.out⟩
      obtain ⟨t, rfl⟩ : ∃ u, t = u + 1 := ⟨t - 1, by omega⟩
      have hm3 : m = (t : Int) := by omega
      subst hm3
      have htl : t < h.length := by omega
      have htN : ((t : Nat) : Int) < (N : Int) := by omega
      have Hck2 : Hid (ck j = nextOk (h[t]'htl).n a.n) := Lib.hid (by rw [Hck.out, if_neg (by omega), Nat.add_sub_cancel, Hat.out t htl])
      rw [HNk.out] at Hck2
      have hst2 := hsm.out t htl (by omega)
      obtain ⟨a1, e1, hab2, b0, b1, b2, b3, b4, b5⟩ := Hnd.out t htl _ (HFw.out _ hfx.out)
      injection e1 with e1
      subst e1
      clear hm2 hle Hck HNk hsm Hat Hnd ht0
      generalize h[t] = b at *
      generalize b.n.saga = sb at *
      generalize b.n.cls = cb at *
      generalize b.n.step = tb at *
      generalize b.n.back = kb at *
      generalize b.n.rd.length = nb at *
      generalize b.n.wt.length = mb at *
      generalize b.rA = Rb at *
      generalize b.rc = rcb at *
      generalize b.wA = Vb at *
      generalize b.wc = wcb at *
      have f2 : Fr No V1 (wr.alloc (.cells #[.int .i64 sb, .int .i64 cb, .int .i64 tb, .bool kb, .slice Rb nb rcb, .slice Vb mb wcb] 37)) := hfx.out.alloc _
      have HFX := Lib.hid f2
      have bxn := HbA.out _ f2
      have q1n := bxn.cell 1
      have q2n := bxn.cell 2
      have q3n := bxn.cell 3
      simp only [List.getElem?_toArray, List.getElem?_cons_zero, List.getElem?_cons_succ] at q1n q2n q3n
      clear f2 bxn
      cases ka
      ·cases kb
       ·by_cases hc : ca = cb
        ·by_cases hw : ta = tb + 1
         ·have HS2 := Lib.hid (Hnx.out (by rw [Hck2.out]; simp [hc, hw]))
          subst hc hw
          clear Hck2 Hnx Hb
          go_wp2
          go_roundw
          case rel => exact ⟨j + 1, by omega, by go_num, HS2, Lib.hid (FV1.out.trans' HFX.out (fun _ _ e => e))⟩
          case measure => simp [intOf]; omega
         ·have HF := Lib.hid (Hb.out (by rw [Hck2.out]; simp [hw]))
          have d1 : decide (ta = tb + 1) = false := decide_eq_false hw
          have d2 : (ta != tb + 1) = true := by simpa using hw
          subst hc
          clear Hck2 Hnx Hb hw
          go_wp2
          go_ret
          exact ⟨by rw [HF.out]; first | rfl | (simp; done), HFw.out _ HFX.out⟩
        ·have HF := Lib.hid (Hb.out (by rw [Hck2.out]; simp [hc]))
         have d1 : decide (ca = cb) = false := decide_eq_false hc
         have d2 : (ca != cb) = true := by simpa using hc
         clear Hck2 Hnx Hb hc
         go_wp2
         go_ret
         exact ⟨by rw [HF.out]; first | rfl | (simp; done), HFw.out _ HFX.out⟩
       ·have HF := Lib.hid (Hb.out (by rw [Hck2.out]; simp))
        by_cases hc : ca = cb
        ·subst hc
         by_cases hw : ta = tb + 1
         ·subst hw
          clear Hck2 Hnx Hb
          go_wp2
          go_ret
          exact ⟨by rw [HF.out]; first | rfl | (simp; done), HFw.out _ HFX.out⟩
         ·have d1 : decide (ta = tb + 1) = false := decide_eq_false hw
          have d2 : (ta != tb + 1) = true := by simpa using hw
          clear Hck2 Hnx Hb hw
          go_wp2
          go_ret
          exact ⟨by rw [HF.out]; first | rfl | (simp; done), HFw.out _ HFX.out⟩
        ·have d1 : decide (ca = cb) = false := decide_eq_false hc
         have d2 : (ca != cb) = true := by simpa using hc
         clear Hck2 Hnx Hb hc
         go_wp2
         go_ret
         exact ⟨by rw [HF.out]; first | rfl | (simp; done), HFw.out _ HFX.out⟩
      ·cases kb
       ·by_cases hc : ca = cb
        ·by_cases hw : ta = tb
         ·have HS2 := Lib.hid (Hnx.out (by rw [Hck2.out]; simp [hc, hw]))
          subst hc hw
          clear Hck2 Hnx Hb
          go_wp2
          go_roundw
          case rel => exact ⟨j + 1, by omega, by go_num, HS2, Lib.hid (FV1.out.trans' HFX.out (fun _ _ e => e))⟩
          case measure => simp [intOf]; omega
         ·have HF := Lib.hid (Hb.out (by rw [Hck2.out]; simp [hw]))
          have d1 : decide (ta = tb) = false := decide_eq_false hw
          have d2 : (ta != tb) = true := by simpa using hw
          subst hc
          clear Hck2 Hnx Hb hw
          go_wp2
          go_ret
          exact ⟨by rw [HF.out]; first | rfl | (simp; done), HFw.out _ HFX.out⟩
        ·have HF := Lib.hid (Hb.out (by rw [Hck2.out]; simp [hc]))
         have d1 : decide (ca = cb) = false := decide_eq_false hc
         have d2 : (ca != cb) = true := by simpa using hc
         clear Hck2 Hnx Hb hc
         go_wp2
         go_ret
         exact ⟨by rw [HF.out]; first | rfl | (simp; done), HFw.out _ HFX.out⟩
       ·by_cases hc : ca = cb
        ·by_cases hw : ta = tb - 1
         ·have HS2 := Lib.hid (Hnx.out (by rw [Hck2.out]; simp [hc, hw]))
          subst hc hw
          clear Hck2 Hnx Hb
          go_wp2
          go_roundw
          case rel => exact ⟨j + 1, by omega, by go_num, HS2, Lib.hid (FV1.out.trans' HFX.out (fun _ _ e => e))⟩
          case measure => simp [intOf]; omega
         ·have HF := Lib.hid (Hb.out (by rw [Hck2.out]; simp [hw]))
          have d1 : decide (ta = tb - 1) = false := decide_eq_false hw
          have d2 : (ta != tb - 1) = true := by simpa using hw
          subst hc
          clear Hck2 Hnx Hb hw
          go_wp2
          go_ret
          exact ⟨by rw [HF.out]; first | rfl | (simp; done), HFw.out _ HFX.out⟩
        ·have HF := Lib.hid (Hb.out (by rw [Hck2.out]; simp [hc]))
         have d1 : decide (ca = cb) = false := decide_eq_false hc
         have d2 : (ca != cb) = true := by simpa using hc
         clear Hck2 Hnx Hb hc
         go_wp2
         go_ret
         exact ⟨by rw [HF.out]; first | rfl | (simp; done), HFw.out _ HFX.out⟩
  ·obtain rfl : k = N := by omega
   have HE := Lib.hid (Hall2.out hpre.out)
   clear hpre HS1 HS2 HOk Hbad Hnd HSm2 Hall2 Hst Hcl Hhas Hsf HT
   go_wp2
   go_ret
   exact ⟨by rw [HE.out]; rfl, HF0.out.trans' hfr.out (fun _ _ e => e)⟩
end Go.Proofs.YtmeimhpllemjfaaGreat
