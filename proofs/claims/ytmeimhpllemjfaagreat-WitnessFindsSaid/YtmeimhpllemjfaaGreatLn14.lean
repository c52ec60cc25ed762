/- The law: whether any history may be is the document's. -/
import Derived.Test.YtmeimhpllemjfaaGreatGrt14
import Derived.Test.YtmeimhpllemjfaaGreatRfm14
import Derived.Test.YtmeimhpllemjfaaGreatBds14
import Derived.Test.YtmeimhpllemjfaaGreatMyp12
import Derived.Test.YtmeimhpllemjfaaGreatRgt10
import Derived.Test.YtmeimhpllemjfaaGreatCls11
import Derived.Test.YtmeimhpllemjfaaGreatRrd9
import Derived.Test.YtmeimhpllemjfaaGreatCtp12
import Derived.Test.YtmeimhpllemjfaaGreatWls12
import Derived.Deep.RegionWith
import Derived.Test.YtmeimhpllemjfaaGreatMy11
import Derived.Deep.CutRange
import Derived.Test.YtmeimhpllemjfaaGreatHand
import Derived.Test.YtmeimhpllemjfaaGreatPts12
import Derived.Test.YtmeimhpllemjfaaGreatMyu14
import Derived.Test.YtmeimhpllemjfaaGreatLas14
namespace Go.Proofs.YtmeimhpllemjfaaGreat
open Go.RowKit

end Go.Proofs.YtmeimhpllemjfaaGreat
/- Package units: the closure of a unit; its first and its last node. -/
namespace Go.Proofs.YtmeimhpllemjfaaGreat
open Go.RowKit

set_option maxHeartbeats 1000000 in
theorem unit1_any (a : Ndl) (w : World) : Calls Tryz.prog 88 #[a.agg] w (Has w false) := by
 unfold Ndl.agg Ndl.arr
 generalize a.n.saga = sa at *
 generalize a.n.cls = ca at *
 generalize a.n.step = ta at *
 generalize a.n.back = ka at *
 generalize a.n.rd.length = na at *
 generalize a.n.wt.length = ma at *
 generalize a.rA = Ra at *
 generalize a.rc = rca at *
 generalize a.wA = Va at *
 generalize a.wc = wca at *
 go_enter Tryz.func88, Tryz.ntmps88
 go_wp2
 go_ret
 exact ⟨rfl, (Fr.refl _ _).alloc _⟩
set_option maxRecDepth 100000 in
set_option maxHeartbeats 2000000 in
theorem unit2_any (a b : Ndl) (lo hi : Int) (q q1 q2 : Nat) (w : World) (hq : Bk w q 37 a.arr) (h1 : Bk w q1 3 #[.int .i64 lo]) (h2 : Bk w q2 3 #[.int .i64 hi]) :
  Calls Tryz.prog 90 #[b.agg, .pointer (some ⟨q, 0, none⟩), .pointer (some ⟨q1, 0, none⟩), .pointer (some ⟨q2, 0, none⟩)] w (Has w (uniB a.n lo hi b.n)) := by
 have Hr : Hid (uniB a.n lo hi b.n = (decide (b.n.saga = a.n.saga) && ((b.n.back == a.n.back) && (decide (lo ≤ b.n.step) && decide (b.n.step ≤ hi))))) := Lib.hid rfl
 generalize uniB a.n lo hi b.n = r at *
 unfold Ndl.agg
 unfold Ndl.arr at *
 obtain ⟨V, hV⟩ : ∃ V, V = w.alloc (.cells #[.int .i64 b.n.saga, .int .i64 b.n.cls, .int .i64 b.n.step, .bool b.n.back, .slice b.rA b.n.rd.length b.rc, .slice b.wA b.n.wt.length b.wc] 37) := ⟨_, rfl⟩
 have f0 : Fr No w V := by rw [hV]; exact (Fr.refl _ _).alloc _
 have bB : Bk V w.heap.size 37 #[.int .i64 b.n.saga, .int .i64 b.n.cls, .int .i64 b.n.step, .bool b.n.back, .slice b.rA b.n.rd.length b.rc, .slice b.wA b.n.wt.length b.wc] := by rw [hV]; exact Bk.made _ _ _
 have y1 := (h1.fr f0 (fun e => e)).cell 0
 have y2 := (h2.fr f0 (fun e => e)).cell 0
 have bQ := hq.fr f0 (fun e => e)
 simp only [List.getElem?_toArray, List.getElem?_cons_zero] at y1 y2
 have HF0 := Lib.hid f0
 have hwe := hV.symm
 clear hq h1 h2 f0 hV
 generalize a.n.saga = sa at *
 generalize a.n.cls = ca at *
 generalize a.n.step = ta at *
 generalize a.n.back = ka at *
 generalize a.n.rd.length = na at *
 generalize a.n.wt.length = ma at *
 generalize a.rA = Ra at *
 generalize a.rc = rca at *
 generalize a.wA = Va at *
 generalize a.wc = wca at *
 generalize b.n.saga = sb at *
 generalize b.n.cls = cb at *
 generalize b.n.step = tb at *
 generalize b.n.back = kb at *
 generalize b.n.rd.length = nb at *
 generalize b.n.wt.length = mb at *
 generalize b.rA = Rb at *
 generalize b.rc = rcb at *
 generalize b.wA = Vb at *
 generalize b.wc = wcb at *
 have bx0 := bB
 have q00 := bx0.cell 0
 have q20 := bx0.cell 2
 have q30 := bx0.cell 3
 simp only [List.getElem?_toArray, List.getElem?_cons_zero, List.getElem?_cons_succ] at q00 q20 q30
 have bx1 := bQ
 have q01 := bx1.cell 0
 have q31 := bx1.cell 3
 simp only [List.getElem?_toArray, List.getElem?_cons_zero, List.getElem?_cons_succ] at q01 q31
 clear bx0 bx1 bB bQ
 by_cases hs : sb = sa
 ·have d1 : decide (sb = sa) = true := decide_eq_true hs
  have d1' : (sb == sa) = true := by simp [hs]
  rw [d1] at Hr
  clear hs
  by_cases hk : kb = ka
  ·subst hk
   by_cases h3 : lo ≤ tb
   ·have d3 : decide (lo ≤ tb) = true := decide_eq_true h3
    by_cases h4 : tb ≤ hi
    ·have d4 : decide (tb ≤ hi) = true := decide_eq_true h4
     have HT : Hid (r = true) := Lib.hid (by rw [Hr.out, d3, d4]; simp)
     clear Hr
     go_enter Tryz.func90, Tryz.ntmps90
     go_wp2
     go_ret
     exact ⟨by rw [HT.out]; first | rfl | (simp [*]; done), HF0.out⟩
    ·have d4 : decide (tb ≤ hi) = false := decide_eq_false h4
     have HT : Hid (r = false) := Lib.hid (by rw [Hr.out, d3, d4]; simp)
     clear Hr
     go_enter Tryz.func90, Tryz.ntmps90
     go_wp2
     go_ret
     exact ⟨by rw [HT.out]; first | rfl | (simp [*]; done), HF0.out⟩
   ·have d3 : decide (lo ≤ tb) = false := decide_eq_false h3
    have HT : Hid (r = false) := Lib.hid (by rw [Hr.out, d3]; simp)
    clear Hr
    go_enter Tryz.func90, Tryz.ntmps90
    go_wp2
    go_ret
    exact ⟨by rw [HT.out]; first | rfl | (simp [*]; done), HF0.out⟩
  ·have d2 : (kb == ka) = false := by simpa using hk
   have d2' : decide (kb = ka) = false := decide_eq_false hk
   have HT : Hid (r = false) := Lib.hid (by rw [Hr.out, d2]; simp)
   clear Hr
   go_enter Tryz.func90, Tryz.ntmps90
   go_wp2
   go_ret
   exact ⟨by rw [HT.out]; first | rfl | (simp [*]; done), HF0.out⟩
 ·have d1 : decide (sb = sa) = false := decide_eq_false hs
  have d1' : (sb == sa) = false := by simpa using hs
  have HT : Hid (r = false) := Lib.hid (by rw [Hr.out, d1]; simp)
  clear Hr
  go_enter Tryz.func90, Tryz.ntmps90
  go_wp2
  go_ret
  exact ⟨by rw [HT.out]; first | rfl | (simp [*]; done), HF0.out⟩

set_option maxHeartbeats 2000000 in
theorem idxN14 (l : List Ndl) (A : Option Addr) (n c : Nat) (p : Nat → Bool) (w : World) (hsl : Sl w w.heap.size A (l.flatMap Ndl.cells)) (hn : l.length = n) (hnm : n ≤ 1099511627776)
  (hf : ∀ (x : BX l) W, Below w.heap.size w W → Calls Tryz.prog 88 #[(l[x.1]'x.2).agg] W (Has W (p x.1))) :
  Calls Tryz.prog 66 #[.slice A n c, .func (.func 88) #[] #[]] w fun e w' => e = .returned (.int .i64 (firstP p n)) ∧ Fr No w w' := by
 have Hf := Lib.hid hf
 have Hn := Lib.hid hn
 have Hsl := Lib.hid hsl
 clear hf hn hsl
 go_enter Tryz.func66, Tryz.ntmps66
 go_wp2
 go_loopw [8] (fun i wr => ∃ k : Nat, k ≤ n ∧ i = .int .i64 (k : Int) ∧ Hid (∀ j, j < k → p j = false) ∧ Fr No w wr) (fun i _ => n - (intOf i).toNat)
 case atStart => exact ⟨0, Nat.zero_le _, rfl, Lib.hid (fun j hj => by omega), Fr.refl _ _⟩
 case round =>
  obtain ⟨k, hk, rfl, hpre, hfr⟩ := hrel
  by_cases hlt : k < n
  ·have hkl : k < l.length := by rw [Hn.out]; exact hlt
   obtain ⟨ad, rfl, hab, c0, c1, c2, c3, c4, c5⟩ := (Hsl.out.since hfr).nd (k := k) hkl
   have hx := Lib.hid (Hf.out ⟨k, hkl⟩ wr hfr.below0)
   have Hst : Hid (p k = false → ∀ j, j < k + 1 → p j = false) := Lib.hid (fun e j hj => by
    by_cases h : j = k
    ·rw [h]; exact e
    ·exact hpre.out j (by omega))
   have Hfd : Hid (p k = true → firstP p n = (k : Int)) := Lib.hid (fun e => firstP_at hlt e hpre.out)
   dsimp only at hx
   unfold Ndl.agg Ndl.arr at hx
   generalize p k = b at *
   generalize l[k] = a at *
   generalize a.n.saga = sa at *
   generalize a.n.cls = ca at *
   generalize a.n.step = ta at *
   generalize a.n.back = ka at *
   generalize a.n.rd.length = na at *
   generalize a.n.wt.length = ma at *
   generalize a.rA = Ra at *
   generalize a.rc = rca at *
   generalize a.wA = Va at *
   generalize a.wc = wca at *
   clear hpre
   cases b
   ·go_wp2_with fail
    refine (hx.out).mono ?_
    rintro e w1 ⟨rfl, hf1⟩
    go_wp2
    go_roundw
    case rel => exact ⟨k + 1, by omega, by go_num, Lib.hid (Hst.out (by first | rfl | trivial)), hfr.trans' hf1 (fun _ _ h => h)⟩
    case measure => simp [intOf]; omega
   ·go_wp2_with fail
    refine (hx.out).mono ?_
    rintro e w1 ⟨rfl, hf1⟩
    go_wp2
    go_ret
    exact ⟨by rw [Hfd.out (by first | rfl | trivial)]; rfl, hfr.trans' hf1 (fun _ _ h => h)⟩
  ·obtain rfl : k = n := by omega
   have HE : Hid (firstP p k = -1) := Lib.hid (firstP_none hpre.out)
   clear hpre
   go_wp2
   go_ret
   exact ⟨by rw [HE.out]; rfl, hfr⟩

set_option maxHeartbeats 2000000 in
theorem idxU14 (l : List Ndl) (A : Option Addr) (n c : Nat) (q q1 q2 : Nat) (p : Nat → Bool) (w : World) (hsl : Sl w w.heap.size A (l.flatMap Ndl.cells)) (hn : l.length = n) (hnm : n ≤ 1099511627776)
  (hf : ∀ (x : BX l) W, Below w.heap.size w W → Calls Tryz.prog 90 #[(l[x.1]'x.2).agg, .pointer (some ⟨q, 0, none⟩), .pointer (some ⟨q1, 0, none⟩), .pointer (some ⟨q2, 0, none⟩)] W (Has W (p x.1))) :
  Calls Tryz.prog 66 #[.slice A n c, .func (.func 90) #[] #[.pointer (some ⟨q, 0, none⟩), .pointer (some ⟨q1, 0, none⟩), .pointer (some ⟨q2, 0, none⟩)]] w fun e w' => e = .returned (.int .i64 (firstP p n)) ∧ Fr No w w' := by
 have Hf := Lib.hid hf
 have Hn := Lib.hid hn
 have Hsl := Lib.hid hsl
 clear hf hn hsl
 go_enter Tryz.func66, Tryz.ntmps66
 go_wp2
 go_loopw [8] (fun i wr => ∃ k : Nat, k ≤ n ∧ i = .int .i64 (k : Int) ∧ Hid (∀ j, j < k → p j = false) ∧ Fr No w wr) (fun i _ => n - (intOf i).toNat)
 case atStart => exact ⟨0, Nat.zero_le _, rfl, Lib.hid (fun j hj => by omega), Fr.refl _ _⟩
 case round =>
  obtain ⟨k, hk, rfl, hpre, hfr⟩ := hrel
  by_cases hlt : k < n
  ·have hkl : k < l.length := by rw [Hn.out]; exact hlt
   obtain ⟨ad, rfl, hab, c0, c1, c2, c3, c4, c5⟩ := (Hsl.out.since hfr).nd (k := k) hkl
   have hx := Lib.hid (Hf.out ⟨k, hkl⟩ wr hfr.below0)
   have Hst : Hid (p k = false → ∀ j, j < k + 1 → p j = false) := Lib.hid (fun e j hj => by
    by_cases h : j = k
    ·rw [h]; exact e
    ·exact hpre.out j (by omega))
   have Hfd : Hid (p k = true → firstP p n = (k : Int)) := Lib.hid (fun e => firstP_at hlt e hpre.out)
   dsimp only at hx
   unfold Ndl.agg Ndl.arr at hx
   generalize p k = b at *
   generalize l[k] = a at *
   generalize a.n.saga = sa at *
   generalize a.n.cls = ca at *
   generalize a.n.step = ta at *
   generalize a.n.back = ka at *
   generalize a.n.rd.length = na at *
   generalize a.n.wt.length = ma at *
   generalize a.rA = Ra at *
   generalize a.rc = rca at *
   generalize a.wA = Va at *
   generalize a.wc = wca at *
   clear hpre
   cases b
   ·go_wp2_with fail
    refine (hx.out).mono ?_
    rintro e w1 ⟨rfl, hf1⟩
    go_wp2
    go_roundw
    case rel => exact ⟨k + 1, by omega, by go_num, Lib.hid (Hst.out (by first | rfl | trivial)), hfr.trans' hf1 (fun _ _ h => h)⟩
    case measure => simp [intOf]; omega
   ·go_wp2_with fail
    refine (hx.out).mono ?_
    rintro e w1 ⟨rfl, hf1⟩
    go_wp2
    go_ret
    exact ⟨by rw [Hfd.out (by first | rfl | trivial)]; rfl, hfr.trans' hf1 (fun _ _ h => h)⟩
  ·obtain rfl : k = n := by omega
   have HE : Hid (firstP p k = -1) := Lib.hid (firstP_none hpre.out)
   clear hpre
   go_wp2
   go_ret
   exact ⟨by rw [HE.out]; rfl, hfr⟩
end Go.Proofs.YtmeimhpllemjfaaGreat
/- Package units: the unit of a node as a closure; its first node, its last one. -/
namespace Go.Proofs.YtmeimhpllemjfaaGreat
open Go.RowKit

def uGood (x : PCt) (h : List Nd) (i d : Int) : Bool := decide (0 ≤ i ∧ i < h.length) && (x.has d && mayH x h)
set_option maxRecDepth 100000 in
set_option maxHeartbeats 4000000 in
theorem unit_no (x : Ctl) (h : List Ndl) (A : Option Addr) (N c : Nat) (i d : Int) (w : World) (hx : Clss w x.cA x.cls) (hB : x.Big) (hh : Nds w A h) (hN : h.length = N) (hNm : N ≤ 1048576) (hNc : N ≤ c) (hf : Nds.Few h) (hg : uGood x.p (ndsOf h) i d = false) :
  Calls Tryz.prog 67 #[x.agg, .slice A N c, .int .i64 i, .int .i64 d] w fun e w' => e = .returned (.func (.func 88) #[] #[]) ∧ Fr No w w' := by
 have HC := Lib.hid (fun W => hasClass_any x d W)
 have HM := Lib.hid (fun W (hW : Fr No w W) => mayU_any x h A N c W (hx.since hW) hB (hh.since hW) hN hNm hNc hf)
 have hlen : (ndsOf h).length = N := by simp [ndsOf, hN]
 unfold uGood at hg
 rw [hlen] at hg
 generalize x.p.has d = b1 at *
 generalize mayH x.p (ndsOf h) = b2 at *
 unfold Ctl.agg at HC HM ⊢
 obtain ⟨Z, hZ⟩ : ∃ Z, Z = x.arr := ⟨_, rfl⟩
 rw [← hZ] at HC HM ⊢
 rw [Ctl.arr_eq] at hZ
 obtain ⟨W0, hW0⟩ : ∃ W0, W0 = w.alloc (.cells Z 26) := ⟨_, rfl⟩
 have bZ : Bk W0 w.heap.size 26 Z := by rw [hW0]; exact Bk.made w _ _
 have HF0 : Hid (Fr No w W0) := Lib.hid (by rw [hW0]; exact (Fr.refl _ _).alloc _)
 have HLd : Hid (∀ V, Fr No W0 V → LdO V 26 ⟨w.heap.size, 0, none⟩ (.agg Z) ∧ V.cell? ⟨w.heap.size, 0, none⟩ = some (.slice x.cA x.cls.length x.cc)) := Lib.hid (fun V h => ⟨ld_cat hZ (bZ.fr h (fun e => e)), by rw [(bZ.fr h (fun e => e)).cell, hZ]; rfl⟩)
 have hwe := hW0.symm
 clear hZ hW0 bZ
 have HL := Lib.hid (fun V (hV : Fr No W0 V) => (HLd.out V hV).1)
 clear hx hB hh hf hlen HLd
 by_cases h0 : i < 0
 ·have d0 : decide (i < 0) = true := decide_eq_true h0
  clear hg
  go_enter Tryz.func67, Tryz.ntmps67
  go_wp2
  go_ret
  exact ⟨rfl, HF0.out⟩
 have d0 : decide (i < 0) = false := decide_eq_false h0
 by_cases h1 : (N : Int) ≤ i
 ·have d1 : decide ((N : Int) ≤ i) = true := decide_eq_true h1
  clear hg
  go_enter Tryz.func67, Tryz.ntmps67
  go_wp2
  go_ret
  exact ⟨rfl, HF0.out⟩
 have d1 : decide ((N : Int) ≤ i) = false := decide_eq_false h1
 rw [decide_eq_true (show 0 ≤ i ∧ i < (N : Int) by omega), Bool.true_and] at hg
 have HL0 := Lib.hid (HL.out _ (Fr.refl _ _))
 cases b1
 ·clear hg
  go_enter Tryz.func67, Tryz.ntmps67
  go_wp2_with (first
   | ((with_reducible refine wpl_ldg ?_ ?_ HL0.out ?_); (· rfl); (· rfl); simp only [Act.put, szA, szB, szC]))
  refine (HC.out _).mono ?_
  rintro e w1 ⟨rfl, f1⟩
  go_wp2
  go_ret
  exact ⟨rfl, HF0.out.trans' f1 (fun _ _ e => e)⟩
 have hb2 : b2 = false := by simpa using hg
 subst hb2
 clear hg
 go_enter Tryz.func67, Tryz.ntmps67
 go_wp2_with (first
  | ((with_reducible refine wpl_ldg ?_ ?_ HL0.out ?_); (· rfl); (· rfl); simp only [Act.put, szA, szB, szC]))
 refine (HC.out _).mono ?_
 rintro e w1 ⟨rfl, f1⟩
 have HL1 := Lib.hid (HL.out _ f1)
 have HM1 := Lib.hid (HM.out _ (HF0.out.trans' f1 (fun _ _ e => e)))
 have F1 := Lib.hid f1
 clear f1 HL0
 go_wp2_with (first
  | ((with_reducible refine wpl_ldg ?_ ?_ HL1.out ?_); (· rfl); (· rfl); simp only [Act.put, szA, szB, szC]))
 refine (HM1.out).mono ?_
 rintro e w2 ⟨rfl, f2⟩
 go_wp2
 go_ret
 exact ⟨rfl, HF0.out.trans' (F1.out.trans' f2 (fun _ _ e => e)) (fun _ _ e => e)⟩
def UnC (w : World) (a : Ndl) (lo hi : Int) (e : Ending) (w' : World) : Prop :=
 ∃ q q1 q2 : Nat, e = .returned (.func (.func 90) #[] #[.pointer (some ⟨q, 0, none⟩), .pointer (some ⟨q1, 0, none⟩), .pointer (some ⟨q2, 0, none⟩)]) ∧ (Bk w' q 37 a.arr ∧ Bk w' q1 3 #[.int .i64 lo] ∧ Bk w' q2 3 #[.int .i64 hi]) ∧ Fr No w w'
theorem nLo_eq {x : PCt} {n : Nd} {d : Int} (h : selfOk x n = true) (hd : x.has d = true) : (n.back = false → x.nLo n d = x.uLo n.cls d n.step ∧ x.nHi n d = x.uHi n.cls d n.step) ∧ (n.back = true → x.nLo n d = n.step ∧ x.nHi n d = n.step) ∧ x.isU n.cls d n.step = true := by
 obtain ⟨-, h2, -, -, h5, h6⟩ := selfOk_parts h
 have hu : x.isU n.cls d n.step = true := by
  unfold PCt.isU
  rw [h2, hd, decide_eq_true (And.intro h5 h6)]
  rfl
 unfold PCt.nLo PCt.nHi PCt.uLo PCt.uHi
 rw [hu]
 refine ⟨fun e => ?_, fun e => ?_, rfl⟩
 ·rw [e]
  exact ⟨rfl, rfl⟩
 ·rw [e]
  exact ⟨rfl, rfl⟩
set_option maxRecDepth 100000 in
set_option maxHeartbeats 8000000 in
theorem unit_yes (x : Ctl) (h : List Ndl) (A : Option Addr) (N c : Nat) (i : Nat) (d : Int) (w : World) (hx : Clss w x.cA x.cls) (hB : x.Big) (hh : Nds w A h) (hN : h.length = N) (hNm : N ≤ 1048576) (hNc : N ≤ c) (hf : Nds.Few h) (hi : i < h.length) (hd : x.p.has d = true) (hm : mayH x.p (ndsOf h) = true) :
  Calls Tryz.prog 67 #[x.agg, .slice A N c, .int .i64 (i : Int), .int .i64 d] w (UnC w h[i] (x.p.nLo h[i].n d) (x.p.nHi h[i].n d)) := by
 have HC := Lib.hid (fun W => hasClass_any x d W)
 have HM := Lib.hid (fun W (hW : Fr No w W) => mayU_any x h A N c W (hx.since hW) hB (hh.since hW) hN hNm hNc hf)
 rw [hd] at HC
 rw [hm] at HM
 have hlen : (ndsOf h).length = N := by simp [ndsOf, hN]
 have hok := mayH_cat hm
 have hself := ndOk_self (mayH_at hm (i := i) (by omega))
 rw [ndsOf_at hi] at hself
 obtain ⟨E1, E2, hu⟩ := nLo_eq hself hd
 have HG := Lib.hid (fun W (hW : Fr No w W) => grownI_any x h[i].n.cls d h[i].n.step W (hx.since hW) (nice_of_ok hok).few hu)
 have Hnd := Lib.hid (fun W (hW : Fr No w W) => (hh.since hW).sl.nd hi)
 have HE1 := Lib.hid E1
 have HE2 := Lib.hid E2
 have hiN : ((i : Nat) : Int) < (N : Int) := by omega
 clear E1 E2 hu hself hok
 generalize x.p.nLo h[i].n d = lo at *
 generalize x.p.nHi h[i].n d = hi2 at *
 generalize x.p.uLo h[i].n.cls d h[i].n.step = l1 at *
 generalize x.p.uHi h[i].n.cls d h[i].n.step = h1 at *
 unfold UnC Ndl.arr
 generalize h[i] = a at *
 unfold Ctl.agg at HC HM HG ⊢
 obtain ⟨Z, hZ⟩ : ∃ Z, Z = x.arr := ⟨_, rfl⟩
 rw [← hZ] at HC HM HG ⊢
 rw [Ctl.arr_eq] at hZ
 obtain ⟨W0, hW0⟩ : ∃ W0, W0 = w.alloc (.cells Z 26) := ⟨_, rfl⟩
 have bZ : Bk W0 w.heap.size 26 Z := by rw [hW0]; exact Bk.made w _ _
 have HF0 : Hid (Fr No w W0) := Lib.hid (by rw [hW0]; exact (Fr.refl _ _).alloc _)
 have HLd : Hid (∀ V, Fr No W0 V → LdO V 26 ⟨w.heap.size, 0, none⟩ (.agg Z) ∧ V.cell? ⟨w.heap.size, 0, none⟩ = some (.slice x.cA x.cls.length x.cc)) := Lib.hid (fun V h => ⟨ld_cat hZ (bZ.fr h (fun e => e)), by rw [(bZ.fr h (fun e => e)).cell, hZ]; rfl⟩)
 have hwe := hW0.symm
 clear hZ hW0 bZ
 have HL := Lib.hid (fun V (hV : Fr No W0 V) => (HLd.out V hV).1)
 clear hx hB hh hf hlen HLd hN hi hd hm
 generalize a.n.saga = sa at *
 generalize a.n.cls = ca at *
 generalize a.n.step = ta at *
 generalize a.n.back = ka at *
 generalize a.n.rd.length = na at *
 generalize a.n.wt.length = ma at *
 generalize a.rA = Ra at *
 generalize a.rc = rca at *
 generalize a.wA = Va at *
 generalize a.wc = wca at *
 have d0 : decide (((i : Nat) : Int) < 0) = false := decide_eq_false (by omega)
 have d1 : decide (N ≤ i) = false := decide_eq_false (by omega)
 have d1' : decide ((N : Int) ≤ (i : Int)) = false := decide_eq_false (by omega)
 have HL0 := Lib.hid (HL.out _ (Fr.refl _ _))
 go_enter Tryz.func67, Tryz.ntmps67
 go_wp2_with (first
  | ((with_reducible refine wpl_ldg ?_ ?_ HL0.out ?_); (· rfl); (· rfl); simp only [Act.put, szA, szB, szC]))
 refine (HC.out _).mono ?_
 rintro e w1 ⟨rfl, f1⟩
 have HL1 := Lib.hid (HL.out _ f1)
 have HM1 := Lib.hid (HM.out _ (HF0.out.trans' f1 (fun _ _ e => e)))
 have F1 := Lib.hid f1
 clear f1 HL0 HM
 go_wp2_with (first
  | ((with_reducible refine wpl_ldg ?_ ?_ HL1.out ?_); (· rfl); (· rfl); simp only [Act.put, szA, szB, szC]))
 refine (HM1.out).mono ?_
 rintro e w2 ⟨rfl, f2⟩
 have F2 := Lib.hid (F1.out.trans' f2 (fun _ _ e => e))
 obtain ⟨ad, rfl, hab, a0, a1, a2, a3, a4, a5⟩ := Hnd.out w2 (HF0.out.trans' F2.out (fun _ _ e => e))
 obtain ⟨V1, hV1⟩ : ∃ V1, V1 = w2.alloc (.cells #[.int .i64 sa, .int .i64 ca, .int .i64 ta, .bool ka, .slice Ra na rca, .slice Va ma wca] 37) := ⟨_, rfl⟩
 have bA : Bk V1 w2.heap.size 37 #[.int .i64 sa, .int .i64 ca, .int .i64 ta, .bool ka, .slice Ra na rca, .slice Va ma wca] := by rw [hV1]; exact Bk.made _ _ _
 have FV1 : Hid (Fr No W0 V1) := Lib.hid (by rw [hV1]; exact F2.out.alloc _)
 have hX : Hid (w.heap.size ≤ w2.heap.size) := Lib.hid (HF0.out.trans' F2.out (fun _ _ e => e)).size
 have HbA := Lib.hid (fun (S : Nat → Prop) V (hV : Fr S V1 V) (hS : ¬ S w2.heap.size) => bA.fr hV hS)
 have hsz : Hid (V1.heap.size = w2.heap.size + 1) := Lib.hid (by rw [hV1]; simp)
 clear f2 HM1 HL1 Hnd
 go_wp2_with fail
 rw [← hV1]
 generalize w2.heap.size = X at *
 clear hV1 bA a0 a1 a2 a3 a4 a5 hab
 have q2 : V1.cell? ⟨X, 2, none⟩ = some (.int .i64 ta) := (HbA.out No V1 (Fr.refl _ _) (fun e => e)).cell 2
 have z1 : (V1.alloc (.cells #[.int .i64 0] 3)).cell? ⟨X, 2, none⟩ = some (.int .i64 ta) := (HbA.out No _ ((Fr.refl _ _).alloc _) (fun e => e)).cell 2
 have z2 : ((V1.alloc (.cells #[.int .i64 0] 3)).alloc (.cells #[.int .i64 0] 3)).cell? ⟨X, 2, none⟩ = some (.int .i64 ta) := (HbA.out No _ (((Fr.refl _ _).alloc _).alloc _) (fun e => e)).cell 2
 have z3 : (V1.alloc (.cells #[.int .i64 ta] 3)).cell? ⟨X, 2, none⟩ = some (.int .i64 ta) := (HbA.out No _ ((Fr.refl _ _).alloc _) (fun e => e)).cell 2
 have z4 : ((V1.alloc (.cells #[.int .i64 0] 3)).alloc (.cells #[.int .i64 ta] 3)).cell? ⟨X, 2, none⟩ = some (.int .i64 ta) := (HbA.out No _ (((Fr.refl _ _).alloc _).alloc _) (fun e => e)).cell 2
 have z5 : ((V1.alloc (.cells #[.int .i64 ta] 3)).alloc (.cells #[.int .i64 0] 3)).cell? ⟨X, 2, none⟩ = some (.int .i64 ta) := (HbA.out No _ (((Fr.refl _ _).alloc _).alloc _) (fun e => e)).cell 2
 go_cut [10, 11] from 36 to 39 (fun s10 s11 wx => ∃ P Q : Nat, s10 = .pointer (some ⟨P, 0, none⟩) ∧ s11 = .pointer (some ⟨Q, 0, none⟩) ∧ P ≠ Q ∧ V1.heap.size ≤ P ∧ V1.heap.size ≤ Q ∧ Hid (Bk wx P 3 #[.int .i64 ta] ∧ Bk wx Q 3 #[.int .i64 ta]) ∧ Hid (Fr No V1 wx))
 case first =>
  go_region
  all_goals
   go_wp2
   go_meet
   first
    | exact ⟨_, _, rfl, rfl, by omega, by omega, by omega, Lib.hid ⟨bkd12 (bka12 (Bk.made _ _ _) _), bkd12 (bkm12 (by simp))⟩, Lib.hid (((Fr.refl No V1).alloc _).alloc _).drew⟩
    | exact ⟨_, _, rfl, rfl, by omega, by omega, by omega, Lib.hid ⟨bkd12 (bkm12 (by simp)), bkd12 (bka12 (Bk.made _ _ _) _)⟩, Lib.hid (((Fr.refl No V1).alloc _).alloc _).drew⟩
 case rest =>
  obtain ⟨P, Q, rfl, rfl, hPQ, hP, hQ, hbb, hfr⟩ := hcut
  have HXP : Hid (X ≠ P ∧ X ≠ Q ∧ w.heap.size ≤ P ∧ w.heap.size ≤ Q) := Lib.hid (by have := hsz.out; have := hX.out; exact ⟨by omega, by omega, by omega, by omega⟩)
  have HFr := Lib.hid (HF0.out.trans' (FV1.out.trans' hfr.out (fun _ _ e => e)) (fun _ _ e => e))
  have bxn := HbA.out _ _ hfr.out (fun e => e)
  have q1n := bxn.cell 1
  have q2n := bxn.cell 2
  have q3n := bxn.cell 3
  simp only [List.getElem?_toArray, List.getElem?_cons_zero, List.getElem?_cons_succ] at q1n q2n q3n
  have HFin := Lib.hid (HbA.out _ _ hfr.out (fun e => e))
  clear bxn q2 z1 z2 z3 z4 z5
  cases ka
  ·obtain ⟨e1, e2⟩ := HE1.out rfl
   have HLw := Lib.hid (HL.out _ (FV1.out.trans' hfr.out (fun _ _ e => e)))
   have HGw := Lib.hid (HG.out _ HFr.out)
   clear HE1 HE2 HG
   go_wp2_with (first
    | ((with_reducible refine wpl_ld ?_ ?_ HLw.out ?_); (· rfl); (· rfl); simp only [Act.put, szA, szB, szC]))
   refine (HGw.out).mono ?_
   rintro e w4 ⟨rfl, f4⟩
   have bP := hbb.out.1.fr f4 (fun e => e)
   have bQ := hbb.out.2.fr f4 (fun e => e)
   have bX := HFin.out.fr f4 (fun e => e)
   have x0 := bP.cell 0
   have x0f := bP.frozen 0
   have y0 := bQ.cell 0
   have y0f := bQ.frozen 0
   simp at x0 y0
   have hQP : Q ≠ P := fun e => hPQ e.symm
   have bP1 : Bk (w4.setCell ⟨P, 0, none⟩ (.int .i64 l1)) P 3 #[.int .i64 l1] := by simpa using bP.put 0 (.int .i64 l1)
   have gP : Fr (fun k => k = P) w4 (w4.setCell ⟨P, 0, none⟩ (.int .i64 l1)) := (Fr.refl (fun k => k = P) w4).setCell (.inl rfl) _
   have bQ1 := bQ.fr gP (fun e => hQP e)
   have y1 := bQ1.cell 0
   have y1f := bQ1.frozen 0
   simp at y1
   have bQ2 : Bk ((w4.setCell ⟨P, 0, none⟩ (.int .i64 l1)).setCell ⟨Q, 0, none⟩ (.int .i64 h1)) Q 3 #[.int .i64 h1] := by simpa using bQ1.put 0 (.int .i64 h1)
   have gQ : Fr (fun k => k = Q) (w4.setCell ⟨P, 0, none⟩ (.int .i64 l1)) ((w4.setCell ⟨P, 0, none⟩ (.int .i64 l1)).setCell ⟨Q, 0, none⟩ (.int .i64 h1)) := (Fr.refl (fun k => k = Q) _).setCell (.inl rfl) _
   have HEnd : Hid ((Bk ((w4.setCell ⟨P, 0, none⟩ (.int .i64 l1)).setCell ⟨Q, 0, none⟩ (.int .i64 h1)) X 37 #[.int .i64 sa, .int .i64 ca, .int .i64 ta, .bool false, .slice Ra na rca, .slice Va ma wca] ∧ Bk ((w4.setCell ⟨P, 0, none⟩ (.int .i64 l1)).setCell ⟨Q, 0, none⟩ (.int .i64 h1)) P 3 #[.int .i64 lo] ∧ Bk ((w4.setCell ⟨P, 0, none⟩ (.int .i64 l1)).setCell ⟨Q, 0, none⟩ (.int .i64 h1)) Q 3 #[.int .i64 hi2]) ∧ Fr No w ((w4.setCell ⟨P, 0, none⟩ (.int .i64 l1)).setCell ⟨Q, 0, none⟩ (.int .i64 h1))) := Lib.hid (by
    rw [e1, e2]
    have g := HXP.out
    exact ⟨⟨(bX.fr gP (fun e => g.1 e)).fr gQ (fun e => g.2.1 e), bP1.fr gQ (fun e => hPQ e), bQ2⟩, ((HFr.out.trans' f4 (fun _ _ e => e)).trans' gP (fun i hi e => by have e : i = P := e; omega)).trans' gQ (fun i hi e => by have e : i = Q := e; omega)⟩)
   clear bP bQ bX bP1 gP bQ1 bQ2 gQ e1 e2 f4 HFin hbb HXP HFr
   go_wp2
   go_ret
   exact ⟨X, P, Q, rfl, HEnd.out.1, HEnd.out.2⟩
  ·obtain ⟨e1, e2⟩ := HE2.out rfl
   have HEnd : Hid ((Bk wc X 37 #[.int .i64 sa, .int .i64 ca, .int .i64 ta, .bool true, .slice Ra na rca, .slice Va ma wca] ∧ Bk wc P 3 #[.int .i64 lo] ∧ Bk wc Q 3 #[.int .i64 hi2]) ∧ Fr No w wc) := Lib.hid (by
    rw [e1, e2]
    exact ⟨⟨HFin.out, hbb.out⟩, HFr.out⟩)
   clear HE1 HE2 HG e1 e2
   go_wp2
   go_ret
   exact ⟨X, P, Q, rfl, HEnd.out.1, HEnd.out.2⟩
def qU (x : PCt) (h : List Nd) (i d : Int) (k : Nat) : Bool := uGood x h i d && inN x h i.toNat k d

set_option maxRecDepth 100000 in
set_option maxHeartbeats 2000000 in
theorem first_any (x : Ctl) (h : List Ndl) (A : Option Addr) (N c : Nat) (i d : Int) (w : World) (hx : Clss w x.cA x.cls) (hB : x.Big) (hh : Nds w A h) (hN : h.length = N) (hNm : N ≤ 1048576) (hNc : N ≤ c) (hf : Nds.Few h) :
  Calls Tryz.prog 47 #[x.agg, .slice A N c, .int .i64 i, .int .i64 d] w fun e w' => e = .returned (.int .i64 (firstP (qU x.p (ndsOf h) i d) N)) ∧ Fr No w w' := by
 have hlen : (ndsOf h).length = N := by simp [ndsOf, hN]
 cases hg : uGood x.p (ndsOf h) i d
 ·have hz : firstP (qU x.p (ndsOf h) i d) N = -1 := firstP_none (fun k hk => by unfold qU; rw [hg]; rfl)
  rw [hz]
  have HU := Lib.hid (fun W (hW : Fr No w W) => unit_no x h A N c i d W (hx.since hW) hB (hh.since hW) hN hNm hNc hf hg)
  have HI := Lib.hid (fun W (hW : Fr No w W) => idxN14 h A N c (fun _ => false) W (hh.since hW).sl hN (by omega) (fun y V _ => unit1_any _ V))
  rw [firstP_none (fun _ _ => rfl)] at HI
  unfold Ctl.agg at HU ⊢
  obtain ⟨Z, hZ⟩ : ∃ Z, Z = x.arr := ⟨_, rfl⟩
  rw [← hZ] at HU ⊢
  rw [Ctl.arr_eq] at hZ
  obtain ⟨W0, hW0⟩ : ∃ W0, W0 = w.alloc (.cells Z 26) := ⟨_, rfl⟩
  have bZ : Bk W0 w.heap.size 26 Z := by rw [hW0]; exact Bk.made w _ _
  have HF0 : Hid (Fr No w W0) := Lib.hid (by rw [hW0]; exact (Fr.refl _ _).alloc _)
  have HLd : Hid (∀ V, Fr No W0 V → LdO V 26 ⟨w.heap.size, 0, none⟩ (.agg Z) ∧ V.cell? ⟨w.heap.size, 0, none⟩ = some (.slice x.cA x.cls.length x.cc)) := Lib.hid (fun V h => ⟨ld_cat hZ (bZ.fr h (fun e => e)), by rw [(bZ.fr h (fun e => e)).cell, hZ]; rfl⟩)
  have hwe := hW0.symm
  clear hZ hW0 bZ
  have HL0 := Lib.hid (HLd.out _ (Fr.refl _ _)).1
  have HU0 := Lib.hid (HU.out _ HF0.out)
  clear hx hB hh hf hlen HLd hg hz HU
  go_enter Tryz.func47, Tryz.ntmps47
  go_wp2_with (first
   | ((with_reducible refine wpl_ld ?_ ?_ HL0.out ?_); (· rfl); (· rfl); simp only [Act.put, szA, szB, szC]))
  refine (HU0.out).mono ?_
  rintro e w1 ⟨rfl, f1⟩
  have F1 := Lib.hid (HF0.out.trans' f1 (fun _ _ e => e))
  have HI1 := Lib.hid (HI.out _ F1.out)
  clear f1 HI HU0 HL0
  go_wp2_with fail
  refine (HI1.out).mono ?_
  rintro e w2 ⟨rfl, f2⟩
  go_wp2
  go_ret
  exact ⟨rfl, F1.out.trans' f2 (fun _ _ e => e)⟩
 ·have hg2 := hg
  unfold uGood at hg2
  simp only [Bool.and_eq_true, decide_eq_true_eq] at hg2
  obtain ⟨⟨hi0, hi1⟩, hd, hm⟩ := hg2
  obtain ⟨i, rfl⟩ := Int.eq_ofNat_of_zero_le hi0
  have hi : i < h.length := by omega
  have HU := Lib.hid (fun W (hW : Fr No w W) => unit_yes x h A N c i d W (hx.since hW) hB (hh.since hW) hN hNm hNc hf hi hd hm)
  have HI := Lib.hid (fun W (hW : Fr No w W) (q q1 q2 : Nat) (hq : Bk W q 37 h[i].arr) (h1 : Bk W q1 3 #[.int .i64 (x.p.nLo h[i].n d)]) (h2 : Bk W q2 3 #[.int .i64 (x.p.nHi h[i].n d)]) => idxU14 h A N c q q1 q2 (qU x.p (ndsOf h) i d) W (hh.since hW).sl hN (by omega) (fun y V hV => by
   have e : qU x.p (ndsOf h) i d y.1 = uniB h[i].n (x.p.nLo h[i].n d) (x.p.nHi h[i].n d) (h[y.1]'y.2).n := by
    have hu := uni_in hm (i := i) (k := y.1) d (by omega) (by have := y.2; omega)
    rw [ndsOf_at hi, ndsOf_at y.2] at hu
    unfold qU
    rw [hg, Int.toNat_natCast, ← hu]
    rfl
   rw [e]
   exact unit2_any h[i] (h[y.1]'y.2) _ _ q q1 q2 V ((hV.block _ hq.lt).trans hq) ((hV.block _ h1.lt).trans h1) ((hV.block _ h2.lt).trans h2)))
  generalize firstP (qU x.p (ndsOf h) i d) N = r at *
  unfold UnC at HU
  generalize x.p.nLo h[i].n d = lo at *
  generalize x.p.nHi h[i].n d = hi2 at *
  generalize h[i] = a at *
  unfold Ctl.agg at HU ⊢
  obtain ⟨Z, hZ⟩ : ∃ Z, Z = x.arr := ⟨_, rfl⟩
  rw [← hZ] at HU ⊢
  rw [Ctl.arr_eq] at hZ
  obtain ⟨W0, hW0⟩ : ∃ W0, W0 = w.alloc (.cells Z 26) := ⟨_, rfl⟩
  have bZ : Bk W0 w.heap.size 26 Z := by rw [hW0]; exact Bk.made w _ _
  have HF0 : Hid (Fr No w W0) := Lib.hid (by rw [hW0]; exact (Fr.refl _ _).alloc _)
  have HLd : Hid (∀ V, Fr No W0 V → LdO V 26 ⟨w.heap.size, 0, none⟩ (.agg Z) ∧ V.cell? ⟨w.heap.size, 0, none⟩ = some (.slice x.cA x.cls.length x.cc)) := Lib.hid (fun V h => ⟨ld_cat hZ (bZ.fr h (fun e => e)), by rw [(bZ.fr h (fun e => e)).cell, hZ]; rfl⟩)
  have hwe := hW0.symm
  clear hZ hW0 bZ
  have HL0 := Lib.hid (HLd.out _ (Fr.refl _ _)).1
  have HU0 := Lib.hid (HU.out _ HF0.out)
  clear hx hB hh hf hlen HLd hg HU hi0 hi1 hd hm
  go_enter Tryz.func47, Tryz.ntmps47
  go_wp2_with (first
   | ((with_reducible refine wpl_ld ?_ ?_ HL0.out ?_); (· rfl); (· rfl); simp only [Act.put, szA, szB, szC]))
  refine (HU0.out).mono ?_
  rintro e w1 ⟨q, q1, q2, rfl, ⟨hq, h1, h2⟩, f1⟩
  have F1 := Lib.hid (HF0.out.trans' f1 (fun _ _ e => e))
  have HI1 := Lib.hid (HI.out _ F1.out q q1 q2 hq h1 h2)
  clear f1 HI HU0 HL0 hq h1 h2
  go_wp2_with fail
  refine (HI1.out).mono ?_
  rintro e w2 ⟨rfl, f2⟩
  go_wp2
  go_ret
  exact ⟨rfl, F1.out.trans' f2 (fun _ _ e => e)⟩

set_option maxRecDepth 100000 in
set_option maxHeartbeats 2000000 in
theorem last_any (x : Ctl) (h : List Ndl) (A : Option Addr) (N c : Nat) (i d : Int) (w : World) (hx : Clss w x.cA x.cls) (hB : x.Big) (hh : Nds w A h) (hN : h.length = N) (hNm : N ≤ 1048576) (hNc : N ≤ c) (hf : Nds.Few h) :
  Calls Tryz.prog 48 #[x.agg, .slice A N c, .int .i64 i, .int .i64 d] w fun e w' => e = .returned (.int .i64 (lastP (qU x.p (ndsOf h) i d) N)) ∧ Fr No w w' := by
 have hlen : (ndsOf h).length = N := by simp [ndsOf, hN]
 cases hg : uGood x.p (ndsOf h) i d
 ·have hz : lastP (qU x.p (ndsOf h) i d) N = -1 := lastP_none (fun k hk => by unfold qU; rw [hg]; rfl)
  rw [hz]
  have HU := Lib.hid (fun W (hW : Fr No w W) => unit_no x h A N c i d W (hx.since hW) hB (hh.since hW) hN hNm hNc hf hg)
  have HI := Lib.hid (fun W (hW : Fr No w W) => lastN14 h A N c (fun _ => false) W (hh.since hW).sl hN (by omega) (fun y V _ => unit1_any _ V))
  rw [lastP_none (fun _ _ => rfl)] at HI
  unfold Ctl.agg at HU ⊢
  obtain ⟨Z, hZ⟩ : ∃ Z, Z = x.arr := ⟨_, rfl⟩
  rw [← hZ] at HU ⊢
  rw [Ctl.arr_eq] at hZ
  obtain ⟨W0, hW0⟩ : ∃ W0, W0 = w.alloc (.cells Z 26) := ⟨_, rfl⟩
  have bZ : Bk W0 w.heap.size 26 Z := by rw [hW0]; exact Bk.made w _ _
  have HF0 : Hid (Fr No w W0) := Lib.hid (by rw [hW0]; exact (Fr.refl _ _).alloc _)
  have HLd : Hid (∀ V, Fr No W0 V → LdO V 26 ⟨w.heap.size, 0, none⟩ (.agg Z) ∧ V.cell? ⟨w.heap.size, 0, none⟩ = some (.slice x.cA x.cls.length x.cc)) := Lib.hid (fun V h => ⟨ld_cat hZ (bZ.fr h (fun e => e)), by rw [(bZ.fr h (fun e => e)).cell, hZ]; rfl⟩)
  have hwe := hW0.symm
  clear hZ hW0 bZ
  have HL0 := Lib.hid (HLd.out _ (Fr.refl _ _)).1
  have HU0 := Lib.hid (HU.out _ HF0.out)
  clear hx hB hh hf hlen HLd hg hz HU
  go_enter Tryz.func48, Tryz.ntmps48
  go_wp2_with (first
   | ((with_reducible refine wpl_ld ?_ ?_ HL0.out ?_); (· rfl); (· rfl); simp only [Act.put, szA, szB, szC]))
  refine (HU0.out).mono ?_
  rintro e w1 ⟨rfl, f1⟩
  have F1 := Lib.hid (HF0.out.trans' f1 (fun _ _ e => e))
  have HI1 := Lib.hid (HI.out _ F1.out)
  clear f1 HI HU0 HL0
  go_wp2_with fail
  refine (HI1.out).mono ?_
  rintro e w2 ⟨rfl, f2⟩
  go_wp2
  go_ret
  exact ⟨rfl, F1.out.trans' f2 (fun _ _ e => e)⟩
 ·have hg2 := hg
  unfold uGood at hg2
  simp only [Bool.and_eq_true, decide_eq_true_eq] at hg2
  obtain ⟨⟨hi0, hi1⟩, hd, hm⟩ := hg2
  obtain ⟨i, rfl⟩ := Int.eq_ofNat_of_zero_le hi0
  have hi : i < h.length := by omega
  have HU := Lib.hid (fun W (hW : Fr No w W) => unit_yes x h A N c i d W (hx.since hW) hB (hh.since hW) hN hNm hNc hf hi hd hm)
  have HI := Lib.hid (fun W (hW : Fr No w W) (q q1 q2 : Nat) (hq : Bk W q 37 h[i].arr) (h1 : Bk W q1 3 #[.int .i64 (x.p.nLo h[i].n d)]) (h2 : Bk W q2 3 #[.int .i64 (x.p.nHi h[i].n d)]) => lastU14 h A N c q q1 q2 (qU x.p (ndsOf h) i d) W (hh.since hW).sl hN (by omega) (fun y V hV => by
   have e : qU x.p (ndsOf h) i d y.1 = uniB h[i].n (x.p.nLo h[i].n d) (x.p.nHi h[i].n d) (h[y.1]'y.2).n := by
    have hu := uni_in hm (i := i) (k := y.1) d (by omega) (by have := y.2; omega)
    rw [ndsOf_at hi, ndsOf_at y.2] at hu
    unfold qU
    rw [hg, Int.toNat_natCast, ← hu]
    rfl
   rw [e]
   exact unit2_any h[i] (h[y.1]'y.2) _ _ q q1 q2 V ((hV.block _ hq.lt).trans hq) ((hV.block _ h1.lt).trans h1) ((hV.block _ h2.lt).trans h2)))
  generalize lastP (qU x.p (ndsOf h) i d) N = r at *
  unfold UnC at HU
  generalize x.p.nLo h[i].n d = lo at *
  generalize x.p.nHi h[i].n d = hi2 at *
  generalize h[i] = a at *
  unfold Ctl.agg at HU ⊢
  obtain ⟨Z, hZ⟩ : ∃ Z, Z = x.arr := ⟨_, rfl⟩
  rw [← hZ] at HU ⊢
  rw [Ctl.arr_eq] at hZ
  obtain ⟨W0, hW0⟩ : ∃ W0, W0 = w.alloc (.cells Z 26) := ⟨_, rfl⟩
  have bZ : Bk W0 w.heap.size 26 Z := by rw [hW0]; exact Bk.made w _ _
  have HF0 : Hid (Fr No w W0) := Lib.hid (by rw [hW0]; exact (Fr.refl _ _).alloc _)
  have HLd : Hid (∀ V, Fr No W0 V → LdO V 26 ⟨w.heap.size, 0, none⟩ (.agg Z) ∧ V.cell? ⟨w.heap.size, 0, none⟩ = some (.slice x.cA x.cls.length x.cc)) := Lib.hid (fun V h => ⟨ld_cat hZ (bZ.fr h (fun e => e)), by rw [(bZ.fr h (fun e => e)).cell, hZ]; rfl⟩)
  have hwe := hW0.symm
  clear hZ hW0 bZ
  have HL0 := Lib.hid (HLd.out _ (Fr.refl _ _)).1
  have HU0 := Lib.hid (HU.out _ HF0.out)
  clear hx hB hh hf hlen HLd hg HU hi0 hi1 hd hm
  go_enter Tryz.func48, Tryz.ntmps48
  go_wp2_with (first
   | ((with_reducible refine wpl_ld ?_ ?_ HL0.out ?_); (· rfl); (· rfl); simp only [Act.put, szA, szB, szC]))
  refine (HU0.out).mono ?_
  rintro e w1 ⟨q, q1, q2, rfl, ⟨hq, h1, h2⟩, f1⟩
  have F1 := Lib.hid (HF0.out.trans' f1 (fun _ _ e => e))
  have HI1 := Lib.hid (HI.out _ F1.out q q1 q2 hq h1 h2)
  clear f1 HI HU0 HL0 hq h1 h2
  go_wp2_with fail
  refine (HI1.out).mono ?_
  rintro e w2 ⟨rfl, f2⟩
  go_wp2
  go_ret
  exact ⟨rfl, F1.out.trans' f2 (fun _ _ e => e)⟩
end Go.Proofs.YtmeimhpllemjfaaGreat
/- The law: the first and the last node of the unit of any node are the document's. -/
namespace Go.Proofs.YtmeimhpllemjfaaGreat
open Go.RowKit

end Go.Proofs.YtmeimhpllemjfaaGreat
