/- Which instructions and programs may be, as the document has it. -/
import Derived.Test.YtmeimhpllemjfaaGreatOne9a
import Derived.Test.YtmeimhpllemjfaaGreatCls11
import Derived.Test.YtmeimhpllemjfaaGreatHand
namespace Go.Proofs.YtmeimhpllemjfaaGreat
open Go.RowKit

set_option maxHeartbeats 400000 in
theorem refOne_any (i : Ins) (n : Int) (w : World) : Calls Tryz.prog 80 #[i.agg, .int .i64 n] w (Has w (insOk i n)) := by
 obtain ⟨o, a, b, c, ka, kb, la, lb, x⟩ := i
 simp only [Ins.agg]
 by_cases h1 : o < 1
 ·have Hb : Hid (insOk ⟨o, a, b, c, ka, kb, la, lb, x⟩ n = false) := Lib.hid (by rw [Bool.eq_false_iff]; intro e; rw [insOk_iff] at e; have := e.1; simp at this; omega)
  have d1 : decide (o < 1) = true := by simpa using h1
  go_enter Tryz.func80, Tryz.ntmps80
  go_wp2
  go_ret
  exact ⟨by rw [Hb.out]; rfl, (Fr.refl _ _).alloc _⟩
 ·by_cases h8 : 8 < o
  ·have Hb : Hid (insOk ⟨o, a, b, c, ka, kb, la, lb, x⟩ n = false) := Lib.hid (by rw [Bool.eq_false_iff]; intro e; rw [insOk_iff] at e; have := e.1; simp at this; omega)
   have d1 : decide (o < 1) = false := by simpa using h1
   have d8 : decide (8 < o) = true := by simpa using h8
   go_enter Tryz.func80, Tryz.ntmps80
   go_wp2
   go_ret
   exact ⟨by rw [Hb.out]; rfl, (Fr.refl _ _).alloc _⟩
  ·rcases (show o = 1 ∨ o = 2 ∨ o = 3 ∨ o = 4 ∨ o = 5 ∨ o = 6 ∨ o = 7 ∨ o = 8 by omega) with rfl | rfl | rfl | rfl | rfl | rfl | rfl | rfl
   ·exact one1 a b c ka kb la lb x n w
   ·exact one2 a b c ka kb la lb x n w
   ·exact one3 a b c ka kb la lb x n w
   ·exact one4 a b c ka kb la lb x n w
   ·exact one5 a b c ka kb la lb x n w
   ·exact one6 a b c ka kb la lb x n w
   ·exact one7 a b c ka kb la lb x n w
   ·exact one8 a b c ka kb la lb x n w

set_option maxHeartbeats 1000000 in
theorem refMay_any (l : List Ins) (n : Int) (A : Option Addr) (m c : Nat) (w : World) (hsl : Sl w w.heap.size A (l.flatMap Ins.cells)) (hm : l.length = m) :
  Calls Tryz.prog 58 #[.slice A m c, .int .i64 n] w (Has w (progOk l n)) := by
 have Hm := Lib.hid hm
 have Hsl := Lib.hid hsl
 have Hno : Hid (¬ ((0 ≤ n ∧ n ≤ 3) ∧ 1 ≤ m ∧ m ≤ 8) → progOk l n = false) := Lib.hid (by
  intro h
  rw [Bool.eq_false_iff]
  intro e
  unfold progOk at e
  simp only [Bool.and_eq_true, decide_eq_true_eq, hm] at e
  exact h ⟨e.1, e.2.1⟩)
 clear hm hsl
 by_cases h0 : n < 0
 ·have d0 : decide (n < 0) = true := by simpa using h0
  have Hb : Hid (progOk l n = false) := Lib.hid (Hno.out (by omega))
  go_enter Tryz.func58, Tryz.ntmps58
  go_wp2
  go_ret
  exact ⟨by rw [Hb.out]; rfl, Fr.refl _ _⟩
 have d0 : decide (n < 0) = false := by simpa using h0
 by_cases h3 : 3 < n
 ·have d3 : decide (3 < n) = true := by simpa using h3
  have Hb : Hid (progOk l n = false) := Lib.hid (Hno.out (by omega))
  go_enter Tryz.func58, Tryz.ntmps58
  go_wp2
  go_ret
  exact ⟨by rw [Hb.out]; rfl, Fr.refl _ _⟩
 have d3 : decide (3 < n) = false := by simpa using h3
 by_cases h1 : m < 1
 ·have d1 : decide ((m : Int) < 1) = true := by simp; omega
  have Hb : Hid (progOk l n = false) := Lib.hid (Hno.out (by omega))
  go_enter Tryz.func58, Tryz.ntmps58
  go_wp2
  go_ret
  exact ⟨by rw [Hb.out]; rfl, Fr.refl _ _⟩
 have d1 : decide ((m : Int) < 1) = false := by simp; omega
 by_cases h8 : 8 < m
 ·have d8 : decide (8 < (m : Int)) = true := by simp; omega
  have Hb : Hid (progOk l n = false) := Lib.hid (Hno.out (by omega))
  go_enter Tryz.func58, Tryz.ntmps58
  go_wp2
  go_ret
  exact ⟨by rw [Hb.out]; rfl, Fr.refl _ _⟩
 have d8 : decide (8 < (m : Int)) = false := by simp; omega
 have C := fun i W => refOne_any i n W
 have HC := Lib.hid C
 have Hall : Hid (progOk l n = l.all fun i => insOk i n) := Lib.hid (by
  have e1 : decide (0 ≤ n ∧ n ≤ 3) = true := by simp; omega
  have e2 : decide (1 ≤ l.length ∧ l.length ≤ 8) = true := by rw [Hm.out]; simp; omega
  rw [progOk, e1, e2]
  rfl)
 clear C
 go_enter Tryz.func58, Tryz.ntmps58
 go_wp2
 go_loopw [5] (fun i wr => ∃ k : Nat, k ≤ m ∧ i = .int .i64 k ∧ Hid ((l.take k).all (fun i => insOk i n) = true) ∧ Fr No w wr) (fun i _ => m - (intOf i).toNat)
 case atStart => exact ⟨0, Nat.zero_le _, rfl, Lib.hid (by simp), Fr.refl _ _⟩
 case round =>
  obtain ⟨k, hk, rfl, hpre, hfr⟩ := hrel
  by_cases hlt : k < m
  ·have hkl : k < l.length := by rw [Hm.out]; exact hlt
   obtain ⟨ad, rfl, hab, c0, c1, c2, c3, c4, c5, c6, c7, c8⟩ := (Hsl.out.since hfr).ins9 (k := k) hkl
   have Hs : Hid (l.take (k + 1) = l.take k ++ [l[k]]) := Lib.hid (List.take_succ_eq_append_getElem hkl)
   have Hf : Hid (insOk l[k] n = false → progOk l n = false) := Lib.hid (by
    intro h
    rw [Hall.out, Bool.eq_false_iff]
    intro e
    rw [List.all_eq_true] at e
    rw [e _ (List.getElem_mem hkl)] at h
    cases h)
   generalize l[k] = x at *
   have hx := HC.out x wr
   generalize hr : insOk x n = r at *
   have Hr := Lib.hid hr
   clear hr
   obtain ⟨xo, xa, xb, xc, xk, xl, xm, xn, xx⟩ := x
   simp only [Ins.agg] at hx
   cases r
   ·go_wp2_with fail
    refine hx.mono ?_
    rintro e w1 ⟨rfl, hf1⟩
    go_wp2
    go_ret
    exact ⟨by rw [Hf.out (by simp)]; rfl, hfr.then0 hf1 (fun _ h => h.elim)⟩
   ·go_wp2_with fail
    refine hx.mono ?_
    rintro e w1 ⟨rfl, hf1⟩
    go_wp2
    go_roundw
    case rel =>
     refine ⟨k + 1, by omega, by go_num, Lib.hid ?_, hfr.then0 hf1 (fun _ h => h.elim)⟩
     rw [Hs.out, List.all_append, hpre.out]
     simp [Hr.out]
    case measure => simp [intOf]; omega
  ·obtain rfl : k = m := by omega
   have Hr : Hid (progOk l n = true) := Lib.hid (by
    have h1 := hpre.out
    rw [List.take_of_length_le (by rw [Hm.out]; exact Nat.le_refl _)] at h1
    rw [Hall.out, h1])
   go_wp2
   go_ret
   exact ⟨by rw [Hr.out]; rfl, hfr⟩
end Go.Proofs.YtmeimhpllemjfaaGreat
/- May a class be, as the document has it. -/
namespace Go.Proofs.YtmeimhpllemjfaaGreat
open Go.RowKit

theorem pairs_get {c : Cls} {k : Nat} (h1 : k < c.steps.length) (h2 : k < c.comps.length) : ∃ h : k < (c.p.steps.zip c.p.comps).length, (c.p.steps.zip c.p.comps)[k] = (c.steps[k].p, c.comps[k].p) := by
 refine ⟨by simp [Cls.p]; omega, by simp [Cls.p, List.getElem_zip]⟩

set_option maxRecDepth 100000 in
set_option maxHeartbeats 8000000 in
theorem refMay11_any (c : Cls) (w : World) (hc : c.Ok w) :
  Calls Tryz.prog 40 #[c.agg] w (Has w c.p.ok) := by
 have Hst := Lib.hid (fun (W : World) (h : Fr No w W) => hc.steps.since h)
 have Hco := Lib.hid (fun (W : World) (h : Fr No w W) => hc.comps.since h)
 have Hall := Lib.hid (fun s hs => hc.steps.all s hs)
 have Hallc := Lib.hid (fun s hs => hc.comps.all s hs)
 have Hget := Lib.hid (fun k h1 h2 => pairs_get (c := c) (k := k) h1 h2)
 have Hr : Hid (c.p.ok = (decide (1 ≤ c.name.size ∧ c.name.size ≤ 16) && (decide (0 ≤ c.args ∧ c.args ≤ 3) && (decide (1 ≤ c.steps.length ∧ c.steps.length ≤ 4) && (decide (c.comps.length = c.steps.length) && (c.p.steps.zip c.p.comps).all (pairOk c.args)))))) := Lib.hid (by simp only [PC.ok, Cls.p, List.length_map]; rfl)
 have Hzl : Hid ((c.p.steps.zip c.p.comps).length = min c.steps.length c.comps.length) := Lib.hid (by simp [Cls.p])
 generalize c.p.ok = r at *
 generalize c.p.steps.zip c.p.comps = zs at *
 obtain ⟨an, a, sA, ss, sc, uA, us, uc, res⟩ := c
 simp only [Cls.agg]
 dsimp only at Hst Hco Hall Hallc Hget Hr Hzl
 obtain ⟨n, hn⟩ : ∃ n, ss.length = n := ⟨_, rfl⟩
 obtain ⟨m, hm⟩ : ∃ m, us.length = m := ⟨_, rfl⟩
 obtain ⟨z, hz⟩ : ∃ z, an.size = z := ⟨_, rfl⟩
 rw [hn, hm] at Hr Hzl
 rw [hz] at Hr
 simp only [hn, hm]
 have Hn := Lib.hid hn
 have Hm := Lib.hid hm
 have Hz := Lib.hid hz
 have hzi : ((an.size : Nat) : Int) = (z : Int) := by omega
 have hfa : Fr No w (w.alloc (.cells #[.string an, .int .i64 a, .slice sA n sc, .slice uA m uc, .bool res] 49)) := (Fr.refl _ _).alloc _
 clear hc hn hm hz
 by_cases g1 : z < 1
 case pos =>
  have d1 : decide ((z : Int) < 1) = true := by simp; omega
  have HE : Hid (r = false) := Lib.hid (by rw [Hr.out]; simp; omega)
  clear g1
  go_enter Tryz.func40, Tryz.ntmps40
  go_wp2
  go_ret
  exact ⟨by rw [HE.out]; rfl, hfa⟩
 have d1 : decide ((z : Int) < 1) = false := by simp; omega
 by_cases g2 : 16 < z
 case pos =>
  have d2 : decide (16 < (z : Int)) = true := by simp; omega
  have HE : Hid (r = false) := Lib.hid (by rw [Hr.out]; simp; omega)
  clear g2
  go_enter Tryz.func40, Tryz.ntmps40
  go_wp2
  go_ret
  exact ⟨by rw [HE.out]; rfl, hfa⟩
 have d2 : decide (16 < (z : Int)) = false := by simp; omega
 by_cases g3 : a < 0
 case pos =>
  have d3 : decide (a < 0) = true := by simpa using g3
  have HE : Hid (r = false) := Lib.hid (by rw [Hr.out]; simp; omega)
  clear g3
  go_enter Tryz.func40, Tryz.ntmps40
  go_wp2
  go_ret
  exact ⟨by rw [HE.out]; rfl, hfa⟩
 have d3 : decide (a < 0) = false := by simpa using g3
 by_cases g4 : 3 < a
 case pos =>
  have d4 : decide (3 < a) = true := by simpa using g4
  have HE : Hid (r = false) := Lib.hid (by rw [Hr.out]; simp; omega)
  clear g4
  go_enter Tryz.func40, Tryz.ntmps40
  go_wp2
  go_ret
  exact ⟨by rw [HE.out]; rfl, hfa⟩
 have d4 : decide (3 < a) = false := by simpa using g4
 by_cases g5 : n < 1
 case pos =>
  have d5 : decide ((n : Int) < 1) = true := by simp; omega
  have HE : Hid (r = false) := Lib.hid (by rw [Hr.out]; simp; omega)
  clear g5
  go_enter Tryz.func40, Tryz.ntmps40
  go_wp2
  go_ret
  exact ⟨by rw [HE.out]; rfl, hfa⟩
 have d5 : decide ((n : Int) < 1) = false := by simp; omega
 by_cases g6 : 4 < n
 case pos =>
  have d6 : decide (4 < (n : Int)) = true := by simp; omega
  have HE : Hid (r = false) := Lib.hid (by rw [Hr.out]; simp; omega)
  clear g6
  go_enter Tryz.func40, Tryz.ntmps40
  go_wp2
  go_ret
  exact ⟨by rw [HE.out]; rfl, hfa⟩
 have d6 : decide (4 < (n : Int)) = false := by simp; omega
 by_cases g7 : m ≠ n
 case pos =>
  have d7 : ((m : Int) != (n : Int)) = true := by rw [bne_iff_ne]; omega
  have HE : Hid (r = false) := Lib.hid (by rw [Hr.out]; simp; omega)
  clear g7
  go_enter Tryz.func40, Tryz.ntmps40
  go_wp2
  go_ret
  exact ⟨by rw [HE.out]; rfl, hfa⟩
 have hmn : m = n := by omega
 have d7 : ((m : Int) != (n : Int)) = false := by rw [hmn]; simp
 have hn4 : n ≤ 4 := by omega
 have HR : Hid (r = zs.all (pairOk a)) := Lib.hid (by
  have e1 : decide (1 ≤ z ∧ z ≤ 16) = true := by simp; omega
  have e2 : decide (0 ≤ a ∧ a ≤ 3) = true := by simp; omega
  have e3 : decide (1 ≤ n ∧ n ≤ 4) = true := by simp; omega
  have e4 : decide (m = n) = true := by simpa using hmn
  rw [Hr.out, e1, e2, e3, e4]
  rfl)
 subst hmn
 have HZ : Hid (zs.length = m) := Lib.hid (by rw [Hzl.out]; omega)
 clear g1 g2 g3 g4 g5 g6 g7 Hr Hzl
 have hB := Bk.made w 49 #[.string an, .int .i64 a, .slice sA m sc, .slice uA m uc, .bool res]
 have HB := Lib.hid hB
 clear hB
 go_enter Tryz.func40, Tryz.ntmps40
 go_wp2
 go_loopw [4] (fun i wr => ∃ k : Nat, k ≤ m ∧ i = .int .i64 k ∧ Hid ((zs.take k).all (pairOk a) = true) ∧ Fr No (w.alloc (.cells #[.string an, .int .i64 a, .slice sA m sc, .slice uA m uc, .bool res] 49)) wr) (fun i _ => m - (intOf i).toNat)
 case atStart => exact ⟨0, Nat.zero_le _, rfl, Lib.hid (by simp), Fr.refl _ _⟩
 case round =>
  obtain ⟨k, hk, rfl, hpre, hfr⟩ := hrel
  have hfw : Fr No w wr := hfa.then0 hfr (fun _ h => h.elim)
  by_cases hlt : k < m
  ·have hkl : k < ss.length := by rw [Hn.out]; exact hlt
   have hkm : k < us.length := by rw [Hm.out]; exact hlt
   have hb := HB.out.fr hfr (fun e => e)
   have hbl := hb.lt
   have f1 := hb.cell 1
   have f2 := hb.cell 2
   have f3 := hb.cell 3
   simp at f1 f2 f3
   obtain ⟨ad, rfl, hab, c0, c1⟩ := (Hst.out wr hfw).sl.stp (k := k) hkl
   obtain ⟨ae, rfl, hae, e0, e1⟩ := (Hco.out wr hfw).sl.stp (k := k) hkm
   have HX := Lib.hid (Hall.out _ (List.getElem_mem hkl))
   have HY := Lib.hid (Hallc.out _ (List.getElem_mem hkm))
   obtain ⟨hkz, hzk⟩ := Hget.out k hkl hkm
   have Hs : Hid (zs.take (k + 1) = zs.take k ++ [zs[k]]) := Lib.hid (List.take_succ_eq_append_getElem hkz)
   have Hbad : Hid (pairOk a zs[k] = false → r = false) := Lib.hid (by
    intro h
    rw [HR.out, Bool.eq_false_iff]
    intro e
    rw [List.all_eq_true] at e
    rw [e _ (List.getElem_mem hkz)] at h
    cases h)
   rw [hzk] at Hs Hbad
   clear hkz hzk
   generalize ss[k] = x at *
   generalize us[k] = y at *
   obtain ⟨xc, xl, xd, xf, xm, xe⟩ := x
   obtain ⟨yc, yl, yd, yf, ym, ye⟩ := y
   dsimp only at c0 c1 e0 e1
   have Hp : Hid (pairOk a (Stp.p ⟨xc, xl, xd, xf, xm, xe⟩, Stp.p ⟨yc, yl, yd, yf, ym, ye⟩) = (progOk xl a && (footOk xm a && (footOk ym a && ((decide (yl.length = 0) || progOk yl a) && yl.all fun i => decide (i.op < 6)))))) := Lib.hid rfl
   generalize (Stp.p ⟨xc, xl, xd, xf, xm, xe⟩, Stp.p ⟨yc, yl, yd, yf, ym, ye⟩) = q at *
   obtain ⟨p1, hp1⟩ : ∃ p1, Hid (xl.length = p1) := ⟨_, Lib.hid rfl⟩
   obtain ⟨p2, hp2⟩ : ∃ p2, Hid (yl.length = p2) := ⟨_, Lib.hid rfl⟩
   obtain ⟨p3, hp3⟩ : ∃ p3, Hid (xm.length = p3) := ⟨_, Lib.hid rfl⟩
   obtain ⟨p4, hp4⟩ : ∃ p4, Hid (ym.length = p4) := ⟨_, Lib.hid rfl⟩
   rw [hp1.out] at c0
   rw [hp3.out] at c1
   rw [hp2.out] at e0 Hp
   rw [hp4.out] at e1
   have C1 := Lib.hid (fun (W : World) (h : Fr No w W) => refMay_any xl a xc p1 xd W (HX.out.code.since h) hp1.out)
   have C2 := Lib.hid (fun (W : World) (h : Fr No w W) => refMay10_any xm a xf p3 xe W (HX.out.foot.since h) hp3.out)
   have C3 := Lib.hid (fun (W : World) (h : Fr No w W) => refMay10_any ym a yf p4 ye W (HY.out.foot.since h) hp4.out)
   have C4 := Lib.hid (fun (W : World) (h : Fr No w W) => refMay_any yl a yc p2 yd W (HY.out.code.since h) hp2.out)
   have HYc := Lib.hid (fun (W : World) (h : Fr No w W) => HY.out.code.since h)
   have H8 : Hid (progOk yl a = true → p2 ≤ 8) := Lib.hid (fun h => by
    unfold progOk at h
    simp only [Bool.and_eq_true, decide_eq_true_eq] at h
    have := hp2.out
    omega)
   generalize progOk xl a = b1 at *
   generalize footOk xm a = b2 at *
   generalize footOk ym a = b3 at *
   generalize progOk yl a = b4 at *
   clear HX HY hb
   have HS : Hid (∀ w', Fr No wr w' → w'.cell? ⟨w.heap.size, 1, none⟩ = some (.int .i64 a) ∧ w'.cell? ⟨w.heap.size, 2, none⟩ = some (.slice (some ad) m sc) ∧ w'.cell? ⟨w.heap.size, 3, none⟩ = some (.slice (some ae) m uc) ∧ w'.cell? (ad.add (k * 2)) = some (.slice xc p1 xd) ∧ w'.cell? ⟨(ad.add (k * 2)).block, (ad.add (k * 2)).off + 1, none⟩ = some (.slice xf p3 xe) ∧ w'.cell? (ae.add (k * 2)) = some (.slice yc p2 yd) ∧ w'.cell? ⟨(ae.add (k * 2)).block, (ae.add (k * 2)).off + 1, none⟩ = some (.slice yf p4 ye)) := Lib.hid (fun w' h => ⟨(h.cell (p := ⟨w.heap.size, 1, none⟩) hbl (fun e => e)).trans f1, (h.cell (p := ⟨w.heap.size, 2, none⟩) hbl (fun e => e)).trans f2, (h.cell (p := ⟨w.heap.size, 3, none⟩) hbl (fun e => e)).trans f3, (h.cell (p := ad.add (k * 2)) (by rw [block_add]; exact hab) (fun e => e)).trans c0, (h.cell (p := ⟨(ad.add (k * 2)).block, (ad.add (k * 2)).off + 1, none⟩) (by rw [block_add]; exact hab) (fun e => e)).trans c1, (h.cell (p := ae.add (k * 2)) (by rw [block_add]; exact hae) (fun e => e)).trans e0, (h.cell (p := ⟨(ae.add (k * 2)).block, (ae.add (k * 2)).off + 1, none⟩) (by rw [block_add]; exact hae) (fun e => e)).trans e1⟩)
   cases b1
   ·have HE : Hid (r = false) := Lib.hid (Hbad.out (by rw [Hp.out]; rfl))
    go_wp2_with fail
    refine wp_region_held_drew (S := fun w' => w'.cell? ⟨w.heap.size, 1, none⟩ = some (.int .i64 a) ∧ w'.cell? ⟨w.heap.size, 2, none⟩ = some (.slice (some ad) m sc) ∧ w'.cell? ⟨w.heap.size, 3, none⟩ = some (.slice (some ae) m uc) ∧ w'.cell? (ad.add (k * 2)) = some (.slice xc p1 xd) ∧ w'.cell? ⟨(ad.add (k * 2)).block, (ad.add (k * 2)).off + 1, none⟩ = some (.slice xf p3 xe) ∧ w'.cell? (ae.add (k * 2)) = some (.slice yc p2 yd) ∧ w'.cell? ⟨(ae.add (k * 2)).block, (ae.add (k * 2)).off + 1, none⟩ = some (.slice yf p4 ye)) (by kernel_rfl) (HS.out wr (Fr.refl _ _)) (fun hHeld => ?_)
    refine any_u 50 (.pointer (some ⟨w.heap.size, 2, none⟩)) (i := 0) rfl rfl ?_
    simp only [Act.put, szA, szB, szC]
    refine any_u 51 (.slice (some ad) m sc) (i := 1) rfl rfl ?_
    simp only [Act.put, szA, szB, szC]
    refine any_u 52 (.int .i64 k) (i := 2) rfl rfl ?_
    simp only [Act.put, szA, szB, szC]
    refine any_u 53 (.pointer (some (ad.add (k * 2)))) (i := 3) rfl rfl ?_
    simp only [Act.put, szA, szB, szC]
    refine any_u 54 (.pointer (some (ad.add (k * 2)))) (i := 4) rfl rfl ?_
    simp only [Act.put, szA, szB, szC]
    refine any_u 55 (.slice xc p1 xd) (i := 5) rfl rfl ?_
    simp only [Act.put, szA, szB, szC]
    refine any_u 56 (.pointer (some ⟨w.heap.size, 1, none⟩)) (i := 6) rfl rfl ?_
    simp only [Act.put, szA, szB, szC]
    refine any_u 57 (.int .i64 a) (i := 7) rfl rfl ?_
    simp only [Act.put, szA, szB, szC]
    refine wpAnyH_ready (rs := [8]) (by kernel_rfl) (by simp) ?_
    refine AllReadyH.cons rfl (fun K' hK => ?_) AllReadyH.nil
    go_simp
    go_at_call 58
    refine (C1.out _ hfw.drew).mono ?_
    rintro e' w1 ⟨rfl, f1⟩
    have F1 : Fr No wr w1 := ((Fr.refl No wr).drew).then0 f1 (fun _ h => h.elim)
    dsimp only
    refine hK.out _ _ (HS.out w1 F1) (fun hHeld => ?_)
    clear hK
    try simp only [Act.put, szA, szB, szC]
    refine any_u 59 (.bool true) (i := 9) rfl rfl ?_
    simp only [Act.put, szA, szB, szC]
    refine any_u 60 (.bool true) (i := 10) rfl rfl ?_
    simp only [Act.put, szA, szB, szC]
    refine any_v 61 (i := 11) rfl rfl ?_
    simp only [Act.put, szA, szB, szC]
    refine any_v 62 (i := 12) rfl rfl ?_
    simp only [Act.put, szA, szB, szC]
    refine any_v 63 (i := 13) rfl rfl ?_
    simp only [Act.put, szA, szB, szC]
    refine any_v 64 (i := 14) rfl rfl ?_
    simp only [Act.put, szA, szB, szC]
    refine any_v 65 (i := 15) rfl rfl ?_
    simp only [Act.put, szA, szB, szC]
    refine any_v 66 (i := 16) rfl rfl ?_
    simp only [Act.put, szA, szB, szC]
    refine any_v 67 (i := 17) rfl rfl ?_
    simp only [Act.put, szA, szB, szC]
    refine any_v 68 (i := 18) rfl rfl ?_
    simp only [Act.put, szA, szB, szC]
    refine any_v 69 (i := 19) rfl rfl ?_
    simp only [Act.put, szA, szB, szC]
    refine any_v 70 (i := 20) rfl rfl ?_
    simp only [Act.put, szA, szB, szC]
    refine any_u 71 (.bool true) (i := 21) rfl rfl ?_
    simp only [Act.put, szA, szB, szC]
    refine any_u 72 (.bool true) (i := 22) rfl rfl ?_
    simp only [Act.put, szA, szB, szC]
    refine any_v 73 (i := 23) rfl rfl ?_
    simp only [Act.put, szA, szB, szC]
    refine any_v 74 (i := 24) rfl rfl ?_
    simp only [Act.put, szA, szB, szC]
    refine any_v 75 (i := 25) rfl rfl ?_
    simp only [Act.put, szA, szB, szC]
    refine any_v 76 (i := 26) rfl rfl ?_
    simp only [Act.put, szA, szB, szC]
    refine any_v 77 (i := 27) rfl rfl ?_
    simp only [Act.put, szA, szB, szC]
    refine any_v 78 (i := 28) rfl rfl ?_
    simp only [Act.put, szA, szB, szC]
    refine any_v 79 (i := 29) rfl rfl ?_
    simp only [Act.put, szA, szB, szC]
    refine any_v 80 (i := 30) rfl rfl ?_
    simp only [Act.put, szA, szB, szC]
    refine any_v 81 (i := 31) rfl rfl ?_
    simp only [Act.put, szA, szB, szC]
    refine any_v 82 (i := 32) rfl rfl ?_
    simp only [Act.put, szA, szB, szC]
    refine any_u 83 (.bool true) (i := 33) rfl rfl ?_
    simp only [Act.put, szA, szB, szC]
    refine wpAnyH_done (by kernel_rfl) ?_ _
    clear hHeld
    go_wp2
    go_ret
    exact ⟨by rw [HE.out]; rfl, hfw.then0 F1 (fun _ h => h.elim)⟩
   cases b2
   ·have HE : Hid (r = false) := Lib.hid (Hbad.out (by rw [Hp.out]; rfl))
    go_wp2_with fail
    refine wp_region_held_drew (S := fun w' => w'.cell? ⟨w.heap.size, 1, none⟩ = some (.int .i64 a) ∧ w'.cell? ⟨w.heap.size, 2, none⟩ = some (.slice (some ad) m sc) ∧ w'.cell? ⟨w.heap.size, 3, none⟩ = some (.slice (some ae) m uc) ∧ w'.cell? (ad.add (k * 2)) = some (.slice xc p1 xd) ∧ w'.cell? ⟨(ad.add (k * 2)).block, (ad.add (k * 2)).off + 1, none⟩ = some (.slice xf p3 xe) ∧ w'.cell? (ae.add (k * 2)) = some (.slice yc p2 yd) ∧ w'.cell? ⟨(ae.add (k * 2)).block, (ae.add (k * 2)).off + 1, none⟩ = some (.slice yf p4 ye)) (by kernel_rfl) (HS.out wr (Fr.refl _ _)) (fun hHeld => ?_)
    refine any_u 50 (.pointer (some ⟨w.heap.size, 2, none⟩)) (i := 0) rfl rfl ?_
    simp only [Act.put, szA, szB, szC]
    refine any_u 51 (.slice (some ad) m sc) (i := 1) rfl rfl ?_
    simp only [Act.put, szA, szB, szC]
    refine any_u 52 (.int .i64 k) (i := 2) rfl rfl ?_
    simp only [Act.put, szA, szB, szC]
    refine any_u 53 (.pointer (some (ad.add (k * 2)))) (i := 3) rfl rfl ?_
    simp only [Act.put, szA, szB, szC]
    refine any_u 54 (.pointer (some (ad.add (k * 2)))) (i := 4) rfl rfl ?_
    simp only [Act.put, szA, szB, szC]
    refine any_u 55 (.slice xc p1 xd) (i := 5) rfl rfl ?_
    simp only [Act.put, szA, szB, szC]
    refine any_u 56 (.pointer (some ⟨w.heap.size, 1, none⟩)) (i := 6) rfl rfl ?_
    simp only [Act.put, szA, szB, szC]
    refine any_u 57 (.int .i64 a) (i := 7) rfl rfl ?_
    simp only [Act.put, szA, szB, szC]
    refine wpAnyH_ready (rs := [8]) (by kernel_rfl) (by simp) ?_
    refine AllReadyH.cons rfl (fun K' hK => ?_) AllReadyH.nil
    go_simp
    go_at_call 58
    refine (C1.out _ hfw.drew).mono ?_
    rintro e' w1 ⟨rfl, f1⟩
    have F1 : Fr No wr w1 := ((Fr.refl No wr).drew).then0 f1 (fun _ h => h.elim)
    dsimp only
    refine hK.out _ _ (HS.out w1 F1) (fun hHeld => ?_)
    clear hK
    try simp only [Act.put, szA, szB, szC]
    refine any_u 59 (.bool false) (i := 9) rfl rfl ?_
    simp only [Act.put, szA, szB, szC]
    refine any_u 60 (.bool false) (i := 10) rfl rfl ?_
    simp only [Act.put, szA, szB, szC]
    refine any_u 61 (.pointer (some ⟨w.heap.size, 2, none⟩)) (i := 11) rfl rfl ?_
    simp only [Act.put, szA, szB, szC]
    refine any_u 62 (.slice (some ad) m sc) (i := 12) rfl rfl ?_
    simp only [Act.put, szA, szB, szC]
    refine any_u 63 (.int .i64 k) (i := 13) rfl rfl ?_
    simp only [Act.put, szA, szB, szC]
    refine any_u 64 (.pointer (some (ad.add (k * 2)))) (i := 14) rfl rfl ?_
    simp only [Act.put, szA, szB, szC]
    refine any_u 65 (.pointer (some ⟨(ad.add (k * 2)).block, (ad.add (k * 2)).off + 1, none⟩)) (i := 15) rfl rfl ?_
    simp only [Act.put, szA, szB, szC]
    refine any_u 66 (.slice xf p3 xe) (i := 16) rfl rfl ?_
    simp only [Act.put, szA, szB, szC]
    refine any_u 67 (.pointer (some ⟨w.heap.size, 1, none⟩)) (i := 17) rfl rfl ?_
    simp only [Act.put, szA, szB, szC]
    refine any_u 68 (.int .i64 a) (i := 18) rfl rfl ?_
    simp only [Act.put, szA, szB, szC]
    refine wpAnyH_ready (rs := [19]) (by kernel_rfl) (by simp) ?_
    refine AllReadyH.cons rfl (fun K' hK => ?_) AllReadyH.nil
    go_simp
    go_at_call 59
    refine (C2.out _ (hfw.then0 F1 (fun _ h => h.elim))).mono ?_
    rintro e' w2 ⟨rfl, f2⟩
    have F2 : Fr No wr w2 := F1.then0 f2 (fun _ h => h.elim)
    dsimp only
    refine hK.out _ _ (HS.out w2 F2) (fun hHeld => ?_)
    clear hK
    try simp only [Act.put, szA, szB, szC]
    refine any_u 70 (.bool true) (i := 20) rfl rfl ?_
    simp only [Act.put, szA, szB, szC]
    refine any_u 71 (.bool true) (i := 21) rfl rfl ?_
    simp only [Act.put, szA, szB, szC]
    refine any_u 72 (.bool true) (i := 22) rfl rfl ?_
    simp only [Act.put, szA, szB, szC]
    refine any_v 73 (i := 23) rfl rfl ?_
    simp only [Act.put, szA, szB, szC]
    refine any_v 74 (i := 24) rfl rfl ?_
    simp only [Act.put, szA, szB, szC]
    refine any_v 75 (i := 25) rfl rfl ?_
    simp only [Act.put, szA, szB, szC]
    refine any_v 76 (i := 26) rfl rfl ?_
    simp only [Act.put, szA, szB, szC]
    refine any_v 77 (i := 27) rfl rfl ?_
    simp only [Act.put, szA, szB, szC]
    refine any_v 78 (i := 28) rfl rfl ?_
    simp only [Act.put, szA, szB, szC]
    refine any_v 79 (i := 29) rfl rfl ?_
    simp only [Act.put, szA, szB, szC]
    refine any_v 80 (i := 30) rfl rfl ?_
    simp only [Act.put, szA, szB, szC]
    refine any_v 81 (i := 31) rfl rfl ?_
    simp only [Act.put, szA, szB, szC]
    refine any_v 82 (i := 32) rfl rfl ?_
    simp only [Act.put, szA, szB, szC]
    refine any_u 83 (.bool true) (i := 33) rfl rfl ?_
    simp only [Act.put, szA, szB, szC]
    refine wpAnyH_done (by kernel_rfl) ?_ _
    clear hHeld
    go_wp2
    go_ret
    exact ⟨by rw [HE.out]; rfl, hfw.then0 F2 (fun _ h => h.elim)⟩
   cases b3
   ·have HE : Hid (r = false) := Lib.hid (Hbad.out (by rw [Hp.out]; rfl))
    go_wp2_with fail
    refine wp_region_held_drew (S := fun w' => w'.cell? ⟨w.heap.size, 1, none⟩ = some (.int .i64 a) ∧ w'.cell? ⟨w.heap.size, 2, none⟩ = some (.slice (some ad) m sc) ∧ w'.cell? ⟨w.heap.size, 3, none⟩ = some (.slice (some ae) m uc) ∧ w'.cell? (ad.add (k * 2)) = some (.slice xc p1 xd) ∧ w'.cell? ⟨(ad.add (k * 2)).block, (ad.add (k * 2)).off + 1, none⟩ = some (.slice xf p3 xe) ∧ w'.cell? (ae.add (k * 2)) = some (.slice yc p2 yd) ∧ w'.cell? ⟨(ae.add (k * 2)).block, (ae.add (k * 2)).off + 1, none⟩ = some (.slice yf p4 ye)) (by kernel_rfl) (HS.out wr (Fr.refl _ _)) (fun hHeld => ?_)
    refine any_u 50 (.pointer (some ⟨w.heap.size, 2, none⟩)) (i := 0) rfl rfl ?_
    simp only [Act.put, szA, szB, szC]
    refine any_u 51 (.slice (some ad) m sc) (i := 1) rfl rfl ?_
    simp only [Act.put, szA, szB, szC]
    refine any_u 52 (.int .i64 k) (i := 2) rfl rfl ?_
    simp only [Act.put, szA, szB, szC]
    refine any_u 53 (.pointer (some (ad.add (k * 2)))) (i := 3) rfl rfl ?_
    simp only [Act.put, szA, szB, szC]
    refine any_u 54 (.pointer (some (ad.add (k * 2)))) (i := 4) rfl rfl ?_
    simp only [Act.put, szA, szB, szC]
    refine any_u 55 (.slice xc p1 xd) (i := 5) rfl rfl ?_
    simp only [Act.put, szA, szB, szC]
    refine any_u 56 (.pointer (some ⟨w.heap.size, 1, none⟩)) (i := 6) rfl rfl ?_
    simp only [Act.put, szA, szB, szC]
    refine any_u 57 (.int .i64 a) (i := 7) rfl rfl ?_
    simp only [Act.put, szA, szB, szC]
    refine wpAnyH_ready (rs := [8]) (by kernel_rfl) (by simp) ?_
    refine AllReadyH.cons rfl (fun K' hK => ?_) AllReadyH.nil
    go_simp
    go_at_call 58
    refine (C1.out _ hfw.drew).mono ?_
    rintro e' w1 ⟨rfl, f1⟩
    have F1 : Fr No wr w1 := ((Fr.refl No wr).drew).then0 f1 (fun _ h => h.elim)
    dsimp only
    refine hK.out _ _ (HS.out w1 F1) (fun hHeld => ?_)
    clear hK
    try simp only [Act.put, szA, szB, szC]
    refine any_u 59 (.bool false) (i := 9) rfl rfl ?_
    simp only [Act.put, szA, szB, szC]
    refine any_u 60 (.bool false) (i := 10) rfl rfl ?_
    simp only [Act.put, szA, szB, szC]
    refine any_u 61 (.pointer (some ⟨w.heap.size, 2, none⟩)) (i := 11) rfl rfl ?_
    simp only [Act.put, szA, szB, szC]
    refine any_u 62 (.slice (some ad) m sc) (i := 12) rfl rfl ?_
    simp only [Act.put, szA, szB, szC]
    refine any_u 63 (.int .i64 k) (i := 13) rfl rfl ?_
    simp only [Act.put, szA, szB, szC]
    refine any_u 64 (.pointer (some (ad.add (k * 2)))) (i := 14) rfl rfl ?_
    simp only [Act.put, szA, szB, szC]
    refine any_u 65 (.pointer (some ⟨(ad.add (k * 2)).block, (ad.add (k * 2)).off + 1, none⟩)) (i := 15) rfl rfl ?_
    simp only [Act.put, szA, szB, szC]
    refine any_u 66 (.slice xf p3 xe) (i := 16) rfl rfl ?_
    simp only [Act.put, szA, szB, szC]
    refine any_u 67 (.pointer (some ⟨w.heap.size, 1, none⟩)) (i := 17) rfl rfl ?_
    simp only [Act.put, szA, szB, szC]
    refine any_u 68 (.int .i64 a) (i := 18) rfl rfl ?_
    simp only [Act.put, szA, szB, szC]
    refine wpAnyH_ready (rs := [19]) (by kernel_rfl) (by simp) ?_
    refine AllReadyH.cons rfl (fun K' hK => ?_) AllReadyH.nil
    go_simp
    go_at_call 59
    refine (C2.out _ (hfw.then0 F1 (fun _ h => h.elim))).mono ?_
    rintro e' w2 ⟨rfl, f2⟩
    have F2 : Fr No wr w2 := F1.then0 f2 (fun _ h => h.elim)
    dsimp only
    refine hK.out _ _ (HS.out w2 F2) (fun hHeld => ?_)
    clear hK
    try simp only [Act.put, szA, szB, szC]
    refine any_u 70 (.bool false) (i := 20) rfl rfl ?_
    simp only [Act.put, szA, szB, szC]
    refine any_u 71 (.bool false) (i := 21) rfl rfl ?_
    simp only [Act.put, szA, szB, szC]
    refine any_u 72 (.bool false) (i := 22) rfl rfl ?_
    simp only [Act.put, szA, szB, szC]
    refine any_u 73 (.pointer (some ⟨w.heap.size, 3, none⟩)) (i := 23) rfl rfl ?_
    simp only [Act.put, szA, szB, szC]
    refine any_u 74 (.slice (some ae) m uc) (i := 24) rfl rfl ?_
    simp only [Act.put, szA, szB, szC]
    refine any_u 75 (.int .i64 k) (i := 25) rfl rfl ?_
    simp only [Act.put, szA, szB, szC]
    refine any_u 76 (.pointer (some (ae.add (k * 2)))) (i := 26) rfl rfl ?_
    simp only [Act.put, szA, szB, szC]
    refine any_u 77 (.pointer (some ⟨(ae.add (k * 2)).block, (ae.add (k * 2)).off + 1, none⟩)) (i := 27) rfl rfl ?_
    simp only [Act.put, szA, szB, szC]
    refine any_u 78 (.slice yf p4 ye) (i := 28) rfl rfl ?_
    simp only [Act.put, szA, szB, szC]
    refine any_u 79 (.pointer (some ⟨w.heap.size, 1, none⟩)) (i := 29) rfl rfl ?_
    simp only [Act.put, szA, szB, szC]
    refine any_u 80 (.int .i64 a) (i := 30) rfl rfl ?_
    simp only [Act.put, szA, szB, szC]
    refine wpAnyH_ready (rs := [31]) (by kernel_rfl) (by simp) ?_
    refine AllReadyH.cons rfl (fun K' hK => ?_) AllReadyH.nil
    go_simp
    go_at_call 59
    refine (C3.out _ (hfw.then0 F2 (fun _ h => h.elim))).mono ?_
    rintro e' w3 ⟨rfl, f3⟩
    have F3 : Fr No wr w3 := F2.then0 f3 (fun _ h => h.elim)
    dsimp only
    refine hK.out _ _ (HS.out w3 F3) (fun hHeld => ?_)
    clear hK
    try simp only [Act.put, szA, szB, szC]
    refine any_u 82 (.bool true) (i := 32) rfl rfl ?_
    simp only [Act.put, szA, szB, szC]
    refine any_u 83 (.bool true) (i := 33) rfl rfl ?_
    simp only [Act.put, szA, szB, szC]
    refine wpAnyH_done (by kernel_rfl) ?_ _
    clear hHeld
    go_wp2
    go_ret
    exact ⟨by rw [HE.out]; rfl, hfw.then0 F3 (fun _ h => h.elim)⟩
   have Hq : Hid (pairOk a q = ((decide (p2 = 0) || b4) && yl.all fun i => decide (i.op < 6))) := Lib.hid (by rw [Hp.out]; rfl)
   clear Hp
   go_wp2_with fail
   refine wp_region_held_drew (S := fun w' => w'.cell? ⟨w.heap.size, 1, none⟩ = some (.int .i64 a) ∧ w'.cell? ⟨w.heap.size, 2, none⟩ = some (.slice (some ad) m sc) ∧ w'.cell? ⟨w.heap.size, 3, none⟩ = some (.slice (some ae) m uc) ∧ w'.cell? (ad.add (k * 2)) = some (.slice xc p1 xd) ∧ w'.cell? ⟨(ad.add (k * 2)).block, (ad.add (k * 2)).off + 1, none⟩ = some (.slice xf p3 xe) ∧ w'.cell? (ae.add (k * 2)) = some (.slice yc p2 yd) ∧ w'.cell? ⟨(ae.add (k * 2)).block, (ae.add (k * 2)).off + 1, none⟩ = some (.slice yf p4 ye)) (by kernel_rfl) (HS.out wr (Fr.refl _ _)) (fun hHeld => ?_)
   refine any_u 50 (.pointer (some ⟨w.heap.size, 2, none⟩)) (i := 0) rfl rfl ?_
   simp only [Act.put, szA, szB, szC]
   refine any_u 51 (.slice (some ad) m sc) (i := 1) rfl rfl ?_
   simp only [Act.put, szA, szB, szC]
   refine any_u 52 (.int .i64 k) (i := 2) rfl rfl ?_
   simp only [Act.put, szA, szB, szC]
   refine any_u 53 (.pointer (some (ad.add (k * 2)))) (i := 3) rfl rfl ?_
   simp only [Act.put, szA, szB, szC]
   refine any_u 54 (.pointer (some (ad.add (k * 2)))) (i := 4) rfl rfl ?_
   simp only [Act.put, szA, szB, szC]
   refine any_u 55 (.slice xc p1 xd) (i := 5) rfl rfl ?_
   simp only [Act.put, szA, szB, szC]
   refine any_u 56 (.pointer (some ⟨w.heap.size, 1, none⟩)) (i := 6) rfl rfl ?_
   simp only [Act.put, szA, szB, szC]
   refine any_u 57 (.int .i64 a) (i := 7) rfl rfl ?_
   simp only [Act.put, szA, szB, szC]
   refine wpAnyH_ready (rs := [8]) (by kernel_rfl) (by simp) ?_
   refine AllReadyH.cons rfl (fun K' hK => ?_) AllReadyH.nil
   go_simp
   go_at_call 58
   refine (C1.out _ hfw.drew).mono ?_
   rintro e' w1 ⟨rfl, f1⟩
   have F1 : Fr No wr w1 := ((Fr.refl No wr).drew).then0 f1 (fun _ h => h.elim)
   dsimp only
   refine hK.out _ _ (HS.out w1 F1) (fun hHeld => ?_)
   clear hK
   try simp only [Act.put, szA, szB, szC]
   refine any_u 59 (.bool false) (i := 9) rfl rfl ?_
   simp only [Act.put, szA, szB, szC]
   refine any_u 60 (.bool false) (i := 10) rfl rfl ?_
   simp only [Act.put, szA, szB, szC]
   refine any_u 61 (.pointer (some ⟨w.heap.size, 2, none⟩)) (i := 11) rfl rfl ?_
   simp only [Act.put, szA, szB, szC]
   refine any_u 62 (.slice (some ad) m sc) (i := 12) rfl rfl ?_
   simp only [Act.put, szA, szB, szC]
   refine any_u 63 (.int .i64 k) (i := 13) rfl rfl ?_
   simp only [Act.put, szA, szB, szC]
   refine any_u 64 (.pointer (some (ad.add (k * 2)))) (i := 14) rfl rfl ?_
   simp only [Act.put, szA, szB, szC]
   refine any_u 65 (.pointer (some ⟨(ad.add (k * 2)).block, (ad.add (k * 2)).off + 1, none⟩)) (i := 15) rfl rfl ?_
   simp only [Act.put, szA, szB, szC]
   refine any_u 66 (.slice xf p3 xe) (i := 16) rfl rfl ?_
   simp only [Act.put, szA, szB, szC]
   refine any_u 67 (.pointer (some ⟨w.heap.size, 1, none⟩)) (i := 17) rfl rfl ?_
   simp only [Act.put, szA, szB, szC]
   refine any_u 68 (.int .i64 a) (i := 18) rfl rfl ?_
   simp only [Act.put, szA, szB, szC]
   refine wpAnyH_ready (rs := [19]) (by kernel_rfl) (by simp) ?_
   refine AllReadyH.cons rfl (fun K' hK => ?_) AllReadyH.nil
   go_simp
   go_at_call 59
   refine (C2.out _ (hfw.then0 F1 (fun _ h => h.elim))).mono ?_
   rintro e' w2 ⟨rfl, f2⟩
   have F2 : Fr No wr w2 := F1.then0 f2 (fun _ h => h.elim)
   dsimp only
   refine hK.out _ _ (HS.out w2 F2) (fun hHeld => ?_)
   clear hK
   try simp only [Act.put, szA, szB, szC]
   refine any_u 70 (.bool false) (i := 20) rfl rfl ?_
   simp only [Act.put, szA, szB, szC]
   refine any_u 71 (.bool false) (i := 21) rfl rfl ?_
   simp only [Act.put, szA, szB, szC]
   refine any_u 72 (.bool false) (i := 22) rfl rfl ?_
   simp only [Act.put, szA, szB, szC]
   refine any_u 73 (.pointer (some ⟨w.heap.size, 3, none⟩)) (i := 23) rfl rfl ?_
   simp only [Act.put, szA, szB, szC]
   refine any_u 74 (.slice (some ae) m uc) (i := 24) rfl rfl ?_
   simp only [Act.put, szA, szB, szC]
   refine any_u 75 (.int .i64 k) (i := 25) rfl rfl ?_
   simp only [Act.put, szA, szB, szC]
   refine any_u 76 (.pointer (some (ae.add (k * 2)))) (i := 26) rfl rfl ?_
   simp only [Act.put, szA, szB, szC]
   refine any_u 77 (.pointer (some ⟨(ae.add (k * 2)).block, (ae.add (k * 2)).off + 1, none⟩)) (i := 27) rfl rfl ?_
   simp only [Act.put, szA, szB, szC]
   refine any_u 78 (.slice yf p4 ye) (i := 28) rfl rfl ?_
   simp only [Act.put, szA, szB, szC]
   refine any_u 79 (.pointer (some ⟨w.heap.size, 1, none⟩)) (i := 29) rfl rfl ?_
   simp only [Act.put, szA, szB, szC]
   refine any_u 80 (.int .i64 a) (i := 30) rfl rfl ?_
   simp only [Act.put, szA, szB, szC]
   refine wpAnyH_ready (rs := [31]) (by kernel_rfl) (by simp) ?_
   refine AllReadyH.cons rfl (fun K' hK => ?_) AllReadyH.nil
   go_simp
   go_at_call 59
   refine (C3.out _ (hfw.then0 F2 (fun _ h => h.elim))).mono ?_
   rintro e' w3 ⟨rfl, f3⟩
   have F3 : Fr No wr w3 := F2.then0 f3 (fun _ h => h.elim)
   dsimp only
   refine hK.out _ _ (HS.out w3 F3) (fun hHeld => ?_)
   clear hK
   try simp only [Act.put, szA, szB, szC]
   refine any_u 82 (.bool false) (i := 32) rfl rfl ?_
   simp only [Act.put, szA, szB, szC]
   refine any_u 83 (.bool false) (i := 33) rfl rfl ?_
   simp only [Act.put, szA, szB, szC]
   refine wpAnyH_done (by kernel_rfl) ?_ _
   clear hHeld
   have HF3 := Lib.hid (hfw.then0 F3 (fun _ h => h.elim))
   obtain ⟨h1, h2, h3, h4, h5, h6, h7⟩ := HS.out w3 F3
   have Hfr3 := Lib.hid (hfr.then0 F3 (fun _ h => h.elim))
   have hb3 := HB.out.fr Hfr3.out (fun e => e)
   have hbl3 := hb3.lt
   have hae3 : (ae.add (k * 2)).block < w3.heap.size := by have := F3.size; rw [block_add]; omega
   clear hb3 C1 C2 C3 HS F1 F2 F3 f1 f2 f3
   by_cases hp0 : p2 = 0
   case neg =>
    have dp : decide (0 < (p2 : Int)) = true := by simp; omega
    have dp0 : decide (p2 = 0) = false := by simpa using hp0
    cases b4
    case false =>
     have HE : Hid (r = false) := Lib.hid (Hbad.out (by rw [Hq.out, dp0]; rfl))
     clear dp0
     go_wp2_with fail
     refine (C4.out _ HF3.out).mono ?_
     rintro e' w4 ⟨rfl, f4⟩
     go_wp2
     go_ret
     exact ⟨by rw [HE.out]; rfl, HF3.out.then0 f4 (fun _ h => h.elim)⟩
    have Hq2 : Hid (pairOk a q = yl.all fun i => decide (i.op < 6)) := Lib.hid (by rw [Hq.out]; simp)
    clear dp0 Hq
    go_wp2_with fail
    refine (C4.out _ HF3.out).mono ?_
    rintro e' w4 ⟨rfl, f4⟩
    have HF4 := Lib.hid (HF3.out.then0 f4 (fun _ h => h.elim))
    have Hfr4 := Lib.hid (Hfr3.out.then0 f4 (fun _ h => h.elim))
    clear f4
    have hp8 : p2 ≤ 8 := H8.out (by simp)
    go_wp2
    go_loop [6] (fun jv => ∃ j : Nat, j ≤ p2 ∧ jv = .int .i64 j ∧ Hid ((yl.take j).all (fun i => decide (i.op < 6)) = true)) (fun jv => p2 - (intOf jv).toNat)
    case atStart => exact ⟨0, Nat.zero_le _, rfl, Lib.hid (by simp)⟩
    case round =>
     obtain ⟨j, hj, rfl, hjp⟩ := hrel
     by_cases hjl : j < p2
     ·have hjy : j < yl.length := by rw [hp2.out]; exact hjl
      obtain ⟨ai, hai, haib, o0, _, _, _, _, _, _, _, _⟩ := (HYc.out w4 HF4.out).ins9 (k := j) hjy
      subst hai
      have Ht : Hid (yl.take (j + 1) = yl.take j ++ [yl[j]]) := Lib.hid (List.take_succ_eq_append_getElem hjy)
      have Hbd : Hid (¬ yl[j].op < 6 → r = false) := Lib.hid (fun h => Hbad.out (by
       rw [Hq2.out, Bool.eq_false_iff]
       intro e
       rw [List.all_eq_true] at e
       have := e _ (List.getElem_mem hjy)
       simp only [decide_eq_true_eq] at this
       exact h this))
      have Hop : Hid (yl[j].op < 6 → (yl.take (j + 1)).all (fun i => decide (i.op < 6)) = true) := Lib.hid (fun h => by
       rw [Ht.out, List.all_append, hjp.out]
       simpa using h)
      generalize yl[j].op = o at *
      clear Ht
      by_cases h6 : o < 6
      ·have d6 : decide (6 ≤ o) = false := by simp <;> omega
       have HO := Lib.hid (Hop.out h6)
       clear Hop Hbd h6
       go_wp2
       go_round
       all_goals first | exact ⟨j + 1, by omega, by go_num, HO⟩ | (simp [intOf]; omega) | simp [intOf]
      ·have d6 : decide (6 ≤ o) = true := by simp <;> omega
       have HE := Lib.hid (Hbd.out h6)
       clear Hop Hbd h6
       go_wp2
       go_ret
       exact ⟨by rw [HE.out]; rfl, HF4.out⟩
     ·obtain rfl : j = p2 := by omega
      have HT : Hid ((zs.take (k + 1)).all (pairOk a) = true) := Lib.hid (by
       rw [Hs.out, List.all_append, hpre.out]
       have h := hjp.out
       rw [List.take_of_length_le (by rw [hp2.out]; exact Nat.le_refl _)] at h
       simp [Hq2.out, h])
      go_wp2
      go_roundw
      case rel => exact ⟨k + 1, by omega, by go_num, HT, Hfr4.out⟩
      case measure => simp [intOf]; omega
   case pos =>
    have dp : decide (0 < (p2 : Int)) = false := by simp; omega
    have Hq2 : Hid (pairOk a q = yl.all fun i => decide (i.op < 6)) := Lib.hid (by rw [Hq.out]; simp [hp0])
    have hp8 : p2 ≤ 8 := by omega
    clear Hq
    go_wp2
    go_loop [6] (fun jv => ∃ j : Nat, j ≤ p2 ∧ jv = .int .i64 j ∧ Hid ((yl.take j).all (fun i => decide (i.op < 6)) = true)) (fun jv => p2 - (intOf jv).toNat)
    case atStart => exact ⟨0, Nat.zero_le _, rfl, Lib.hid (by simp)⟩
    case round =>
     obtain ⟨j, hj, rfl, hjp⟩ := hrel
     by_cases hjl : j < p2
     ·exact absurd hjl (by omega)
     ·obtain rfl : j = p2 := by omega
      have HT : Hid ((zs.take (k + 1)).all (pairOk a) = true) := Lib.hid (by
       rw [Hs.out, List.all_append, hpre.out]
       have h := hjp.out
       rw [List.take_of_length_le (by rw [hp2.out]; exact Nat.le_refl _)] at h
       simp [Hq2.out, h])
      go_wp2
      go_roundw
      case rel => exact ⟨k + 1, by omega, by go_num, HT, Hfr3.out⟩
      case measure => simp [intOf]; omega
  ·obtain rfl : k = m := by omega
   have HE : Hid (r = true) := Lib.hid (by
    have h := hpre.out
    rw [List.take_of_length_le (by rw [HZ.out]; exact Nat.le_refl _)] at h
    rw [HR.out, h])
   go_wp2
   go_ret
   exact ⟨by rw [HE.out]; rfl, hfw⟩
end Go.Proofs.YtmeimhpllemjfaaGreat
