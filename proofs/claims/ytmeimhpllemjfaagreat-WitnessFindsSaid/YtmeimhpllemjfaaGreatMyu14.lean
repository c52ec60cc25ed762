/- Package units: does a node come next of its saga? Which spans may it have? -/
import Derived.Test.YtmeimhpllemjfaaGreatLas14
import Derived.Test.YtmeimhpllemjfaaGreatBds14
import Derived.Test.YtmeimhpllemjfaaGreatMay4
import Derived.Test.YtmeimhpllemjfaaGreatMyp14
namespace Go.Proofs.YtmeimhpllemjfaaGreat
open Go.RowKit

set_option maxHeartbeats 1000000 in
theorem follows1_any (a b : Ndl) (q : Nat) (w : World) (hq : Bk w q 37 b.arr) : Calls Tryz.prog 76 #[a.agg, .pointer (some ⟨q, 0, none⟩)] w (Has w (sagaB b.n.saga a.n)) := by
 unfold sagaB
 unfold Ndl.agg
 unfold Ndl.arr at *
 have f0 : Fr No w (w.alloc (.cells #[.int .i64 a.n.saga, .int .i64 a.n.cls, .int .i64 a.n.step, .bool a.n.back, .slice a.rA a.n.rd.length a.rc, .slice a.wA a.n.wt.length a.wc] 37)) := (Fr.refl _ _).alloc _
 have x0 := (hq.fr f0 (fun e => e)).cell 0
 simp only [List.getElem?_toArray, List.getElem?_cons_zero] at x0
 clear hq
 generalize a.n.saga = sa at *
 generalize a.n.cls = ca at *
 generalize a.n.step = ta at *
 generalize a.n.back = ka at *
 generalize a.n.rd.length = na at *
 generalize a.n.wt.length = ma at *
 generalize a.rA = Ra at *
 generalize a.rc = rca at *
 generalize a.wA = Va at *
 generalize a.wc = wca at *
 generalize b.n.saga = sb at *
 generalize b.n.cls = cb at *
 generalize b.n.step = tb at *
 generalize b.n.back = kb at *
 generalize b.n.rd.length = nb at *
 generalize b.n.wt.length = mb at *
 generalize b.rA = Rb at *
 generalize b.rc = rcb at *
 generalize b.wA = Vb at *
 generalize b.wc = wcb at *
 by_cases h : sa = sb
 ·subst h
  rw [decide_eq_true (rfl : sa = sa)]
  go_enter Tryz.func76, Tryz.ntmps76
  go_wp2
  go_ret
  exact ⟨by first | rfl | (simp; done), f0⟩
 ·have d1 : decide (sa = sb) = false := decide_eq_false h
  have d2 : (sa == sb) = false := by simpa using h
  rw [d1]
  go_enter Tryz.func76, Tryz.ntmps76
  go_wp2
  go_ret
  exact ⟨by first | rfl | (simp [h]; done), f0⟩
def folB (h : List Nd) (b : Nd) : Bool := if lastN h b.saga h.length = 0 then !b.back && decide (b.step = 0) else nextOk (ndAt h (lastN h b.saga h.length - 1)) b
set_option maxRecDepth 100000 in
set_option maxHeartbeats 4000000 in
theorem follows_any (h : List Ndl) (A : Option Addr) (N c : Nat) (b : Ndl) (w : World) (hh : Sl w w.heap.size A (h.flatMap Ndl.cells)) (hN : h.length = N) (hl : N ≤ 1099511627776) (hst : ∀ x ∈ h, -1000 ≤ x.n.step ∧ x.n.step ≤ 1000) :
  Calls Tryz.prog 53 #[.slice A N c, b.agg] w (Has w (folB (ndsOf h) b.n)) := by
 have hlen : (ndsOf h).length = N := by simp [ndsOf, hN]
 have hfol : folB (ndsOf h) b.n = if lastN (ndsOf h) b.n.saga N = 0 then !b.n.back && decide (b.n.step = 0) else nextOk (ndAt (ndsOf h) (lastN (ndsOf h) b.n.saga N - 1)) b.n := by unfold folB; rw [hlen]
 have bB := Bk.made w 37 b.arr
 have f0 : Fr No w (w.alloc (.cells b.arr 37)) := (Fr.refl _ _).alloc _
 have HLa := Lib.hid (lastF14 h A N c w.heap.size (fun k => sagaB b.n.saga (ndAt (ndsOf h) k)) (w.alloc (.cells b.arr 37)) (hh.since f0) hN hl (fun x W hW => by
  rw [ndsOf_at x.2]
  exact follows1_any (h[x.1]'x.2) b w.heap.size W ((hW.block _ (by simp)).trans bB)))
 rw [lastN_P] at HLa
 obtain ⟨W0, hW0⟩ : ∃ W0, W0 = w.alloc (.cells b.arr 37) := ⟨_, rfl⟩
 rw [← hW0] at HLa bB f0
 have HF0 := Lib.hid f0
 have HBb := Lib.hid (fun V (hV : Fr No W0 V) => bB.fr hV (fun e => e))
 have Hle := lastN_le (ndsOf h) b.n.saga N
 have Hat := Lib.hid (fun (k : Nat) (hk : k < h.length) V (hV : Fr No w V) => (hh.since hV).nd hk)
 have Hnd := Lib.hid (fun (k : Nat) (hk : k < h.length) => ndsOf_at (l := h) hk)
 have Hst := Lib.hid (fun (k : Nat) (hk : k < h.length) => hst _ (List.getElem_mem hk))
 have Hr := Lib.hid hfol
 generalize folB (ndsOf h) b.n = r at *
 generalize lastN (ndsOf h) b.n.saga N = j at *
 unfold Ndl.agg
 unfold Ndl.arr at *
 have hwe := hW0.symm
 have HNk := Lib.hid (fun (x : Nd) => show nextOk x b.n = (decide (b.n.cls = x.cls) && (decide (b.n.step = if b.n.back = true then (if x.back = true then x.step - 1 else x.step) else x.step + 1) && !(x.back && !b.n.back))) from rfl)
 clear hh hst hfol hlen bB f0 hW0
 have HN := Lib.hid hN
 clear hN
 by_cases hj : j = 0
 ·subst hj
  have Hr2 : Hid (r = (!b.n.back && decide (b.n.step = 0))) := Lib.hid (by rw [Hr.out]; rfl)
  clear Hr Hat Hnd Hst HNk
  generalize b.n.saga = sb at *
  generalize b.n.cls = cb at *
  generalize b.n.step = tb at *
  generalize b.n.back = kb at *
  generalize b.n.rd.length = nb at *
  generalize b.n.wt.length = mb at *
  generalize b.rA = Rb at *
  generalize b.rc = rcb at *
  generalize b.wA = Vb at *
  generalize b.wc = wcb at *
  by_cases h0 : tb = 0
  ·subst h0
   have HT : Hid (r = !kb) := Lib.hid (by rw [Hr2.out]; simp)
   clear Hr2
   go_enter Tryz.func53, Tryz.ntmps53
   go_wp2_with fail
   refine (HLa.out).mono ?_
   rintro e w1 ⟨rfl, f1⟩
   have bxn := HBb.out w1 f1
   have q2n := bxn.cell 2
   have q3n := bxn.cell 3
   simp only [List.getElem?_toArray, List.getElem?_cons_zero, List.getElem?_cons_succ] at q2n q3n
   have HF1 := Lib.hid (HF0.out.trans' f1 (fun _ _ e => e))
   clear f1 HLa bxn
   cases kb
   ·go_wp2
    go_ret
    exact ⟨by rw [HT.out]; rfl, HF1.out⟩
   ·go_wp2
    go_ret
    exact ⟨by rw [HT.out]; rfl, HF1.out⟩
  ·have d0 : decide (tb = 0) = false := decide_eq_false h0
   have HT : Hid (r = false) := Lib.hid (by rw [Hr2.out, d0, Bool.and_false])
   clear Hr2
   go_enter Tryz.func53, Tryz.ntmps53
   go_wp2_with fail
   refine (HLa.out).mono ?_
   rintro e w1 ⟨rfl, f1⟩
   have bxn := HBb.out w1 f1
   have q2n := bxn.cell 2
   have q3n := bxn.cell 3
   simp only [List.getElem?_toArray, List.getElem?_cons_zero, List.getElem?_cons_succ] at q2n q3n
   have HF1 := Lib.hid (HF0.out.trans' f1 (fun _ _ e => e))
   clear f1 HLa bxn
   go_wp2
   go_ret
   exact ⟨by rw [HT.out]; rfl, HF1.out⟩
 ·obtain ⟨k, rfl⟩ : ∃ k, j = k + 1 := ⟨j - 1, by omega⟩
  have hk : k < h.length := by rw [HN.out]; omega
  have hkN : ((k : Nat) : Int) < (N : Int) := by omega
  have Hr2 : Hid (r = nextOk (h[k]'hk).n b.n) := Lib.hid (by rw [Hr.out, if_neg (by omega), Nat.add_sub_cancel, Hnd.out k hk])
  rw [HNk.out] at Hr2
  have hst := Hst.out k hk
  have HA2 := Lib.hid (fun V hV => Hat.out k hk V hV)
  have hkk : (((k + 1 : Nat) : Int) - 1) = (k : Int) := by omega
  rw [hkk] at HLa
  clear Hr Hat Hnd Hst HNk hkk hj
  generalize h[k] = a at *
  generalize b.n.saga = sb at *
  generalize b.n.cls = cb at *
  generalize b.n.step = tb at *
  generalize b.n.back = kb at *
  generalize b.n.rd.length = nb at *
  generalize b.n.wt.length = mb at *
  generalize b.rA = Rb at *
  generalize b.rc = rcb at *
  generalize b.wA = Vb at *
  generalize b.wc = wcb at *
  generalize a.n.saga = sa at *
  generalize a.n.cls = ca at *
  generalize a.n.step = ta at *
  generalize a.n.back = ka at *
  generalize a.n.rd.length = na at *
  generalize a.n.wt.length = ma at *
  generalize a.rA = Ra at *
  generalize a.rc = rca at *
  generalize a.wA = Va at *
  generalize a.wc = wca at *
  go_enter Tryz.func53, Tryz.ntmps53
  go_wp2_with fail
  refine (HLa.out).mono ?_
  rintro e w1 ⟨rfl, f1⟩
  have F1 := Lib.hid f1
  obtain ⟨ad, rfl, hab, a0, a1, a2, a3, a4, a5⟩ := HA2.out w1 (HF0.out.trans' f1 (fun _ _ e => e))
  have f2 : Fr No w1 (w1.alloc (.cells #[.int .i64 sa, .int .i64 ca, .int .i64 ta, .bool ka, .slice Ra na rca, .slice Va ma wca] 37)) := (Fr.refl _ _).alloc _
  have bxn := HBb.out _ (f1.trans' f2 (fun _ _ e => e))
  have q1n := bxn.cell 1
  have q2n := bxn.cell 2
  have q3n := bxn.cell 3
  simp only [List.getElem?_toArray, List.getElem?_cons_zero, List.getElem?_cons_succ] at q1n q2n q3n
  have HF2 := Lib.hid (HF0.out.trans' (f1.trans' f2 (fun _ _ e => e)) (fun _ _ e => e))
  clear f1 f2 HLa HA2 bxn F1
  by_cases hc : cb = ca
  ·have d1 : decide (cb = ca) = true := decide_eq_true hc
   have d1' : (cb != ca) = false := by simp [hc]
   rw [d1] at Hr2
   cases kb
   ·cases ka
    ·by_cases ht : tb = ta + 1
     ·have HT : Hid (r = true) := Lib.hid (by rw [Hr2.out]; simp [ht])
      subst ht
      clear Hr2
      go_wp2
      go_ret
      exact ⟨by rw [HT.out]; first | rfl | (simp; done) | (simp; omega), HF2.out⟩
     ·have HT : Hid (r = false) := Lib.hid (by rw [Hr2.out]; simp [ht])
      have d2 : decide (tb = ta + 1) = false := decide_eq_false ht
      have d3 : (tb == ta + 1) = false := by simpa using ht
      clear Hr2
      go_wp2
      go_ret
      exact ⟨by rw [HT.out]; first | rfl | simp [ht], HF2.out⟩
    ·have HT : Hid (r = false) := Lib.hid (by rw [Hr2.out]; simp)
     clear Hr2
     go_wp2
     go_ret
     exact ⟨by rw [HT.out]; rfl, HF2.out⟩
   ·cases ka
    ·by_cases ht : tb = ta
     ·have HT : Hid (r = true) := Lib.hid (by rw [Hr2.out]; simp [ht])
      subst ht
      clear Hr2
      go_wp2
      go_ret
      exact ⟨by rw [HT.out]; first | rfl | (simp; done) | (simp; omega), HF2.out⟩
     ·have HT : Hid (r = false) := Lib.hid (by rw [Hr2.out]; simp [ht])
      have d2 : decide (tb = ta) = false := decide_eq_false ht
      have d3 : (tb == ta) = false := by simpa using ht
      clear Hr2
      go_wp2
      go_ret
      exact ⟨by rw [HT.out]; first | rfl | simp [ht], HF2.out⟩
    ·by_cases ht : tb = ta - 1
     ·have HT : Hid (r = true) := Lib.hid (by rw [Hr2.out]; simp [ht])
      subst ht
      clear Hr2
      go_wp2
      go_ret
      exact ⟨by rw [HT.out]; first | rfl | (simp; done) | (simp; omega), HF2.out⟩
     ·have HT : Hid (r = false) := Lib.hid (by rw [Hr2.out]; simp [ht])
      have d2 : decide (tb = ta - 1) = false := decide_eq_false ht
      have d3 : (tb == ta - 1) = false := by simpa using ht
      clear Hr2
      go_wp2
      go_ret
      exact ⟨by rw [HT.out]; first | rfl | simp [ht], HF2.out⟩
  ·have d1 : decide (cb = ca) = false := decide_eq_false hc
   have d1' : (cb != ca) = true := by simpa using hc
   rw [d1] at Hr2
   have HT : Hid (r = false) := Lib.hid (by rw [Hr2.out]; rfl)
   clear Hr2
   go_wp2
   go_ret
   exact ⟨by rw [HT.out]; rfl, HF2.out⟩

set_option maxHeartbeats 1000000 in
theorem maySp1_any (a b : Int) (w : World) : Calls Tryz.prog 101 #[.agg #[.int .i64 a, .int .i64 b]] w (Has w (!mayB a b)) := by
 have C := Lib.hid (fun W => kMay_any a b W)
 generalize mayB a b = r at *
 have HF0 : Hid (Fr No w (w.alloc (.cells #[.int .i64 a, .int .i64 b] 51))) := Lib.hid ((Fr.refl _ _).alloc _)
 go_enter Tryz.func101, Tryz.ntmps101
 go_wp2_with fail
 refine (C.out _).mono ?_
 rintro e w1 ⟨rfl, f1⟩
 go_wp2
 go_ret
 exact ⟨rfl, HF0.out.trans' f1 (fun _ _ e => e)⟩
def At14 (w : World) (b : Bool) (e : Ending) (w' : World) : Prop := Fr No w w' ∧ ∃ r : Int, e = .returned (.int .i64 r) ∧ decide (0 ≤ r) = b
theorem any_step14 {α : Type} (p : α → Bool) (l : List α) (k : Nat) (hk : k < l.length) (h : (l.take k).any p = false) : (l.take (k + 1)).any p = p l[k] := by
 rw [List.take_succ_eq_append_getElem hk, List.any_append, h]
 simp
theorem any_found14 {α : Type} (p : α → Bool) (l : List α) (k : Nat) (hk : k < l.length) (h : p l[k] = true) : l.any p = true := List.any_eq_true.2 ⟨_, List.getElem_mem hk, h⟩
def noSp (s : Span) : Bool := !mayB s.1 s.2
set_option maxHeartbeats 1000000 in
theorem idxSp14_any (l : List Span) (A : Option Addr) (n c : Nat) (w : World) (hsl : Sl w w.heap.size A (sps l)) (hn : l.length = n) (hnm : n ≤ 1099511627776) : Calls Tryz.prog 116 #[.slice A n c, .func (.func 101) #[] #[]] w (At14 w (l.any noSp)) := by
 have Hn := Lib.hid hn
 have Hsl := Lib.hid hsl
 clear hn hsl
 go_enter Tryz.func116, Tryz.ntmps116
 go_wp2
 go_loopw [8] (fun i wr => ∃ k : Nat, k ≤ n ∧ i = .int .i64 (k : Int) ∧ Hid ((l.take k).any noSp = false) ∧ Fr No w wr) (fun i _ => n - (intOf i).toNat)
 case atStart => exact ⟨0, Nat.zero_le _, rfl, Lib.hid (by simp), Fr.refl _ _⟩
 case round =>
  obtain ⟨k, hk, rfl, hpre, hfr⟩ := hrel
  by_cases hlt : k < n
  ·have hkl : k < l.length := by rw [Hn.out]; exact hlt
   obtain ⟨ad, rfl, hab, c0, c1⟩ := (Hsl.out.since hfr).span (k := k) hkl
   have hx := Lib.hid (maySp1_any l[k].1 l[k].2 wr)
   have Hst := Lib.hid (any_step14 noSp l k hkl hpre.out)
   have Hfd := Lib.hid (any_found14 noSp l k hkl)
   change Hid (Calls _ _ _ _ (Has wr (noSp l[k]))) at hx
   generalize noSp l[k] = b at *
   generalize l[k].1 = xa at *
   generalize l[k].2 = xb at *
   clear hpre
   cases b
   ·go_wp2_with fail
    refine (hx.out).mono ?_
    rintro e w1 ⟨rfl, hf1⟩
    go_wp2
    go_roundw
    case rel => exact ⟨k + 1, by omega, by go_num, Lib.hid Hst.out, hfr.trans' hf1 (fun _ _ h => h)⟩
    case measure => simp [intOf]; omega
   ·go_wp2_with fail
    refine (hx.out).mono ?_
    rintro e w1 ⟨rfl, hf1⟩
    go_wp2
    go_ret
    exact ⟨hfr.trans' hf1 (fun _ _ h => h), k, rfl, by rw [Hfd.out (by first | rfl | trivial)]; simp⟩
  ·obtain rfl : k = n := by omega
   go_wp2
   go_ret
   refine ⟨hfr, -1, rfl, ?_⟩
   have h1 := hpre.out
   rw [List.take_of_length_le (by rw [Hn.out]; exact Nat.le_refl _)] at h1
   rw [h1]
   rfl
set_option maxHeartbeats 1000000 in
theorem hasSp14_any (l : List Span) (A : Option Addr) (n c : Nat) (w : World) (hsl : Sl w w.heap.size A (sps l)) (hn : l.length = n) (hnm : n ≤ 1099511627776) : Calls Tryz.prog 103 #[.slice A n c, .func (.func 101) #[] #[]] w (Has w (l.any noSp)) := by
 have Hc := Lib.hid (idxSp14_any l A n c w hsl hn hnm)
 generalize l.any noSp = b at *
 clear hn hsl
 go_enter Tryz.func103, Tryz.ntmps103
 go_wp2_with fail
 refine (Hc.out).mono ?_
 rintro e w1 ⟨hf1, r, rfl, hr⟩
 go_wp2
 go_ret
 exact ⟨by rw [← hr]; rfl, hf1⟩
theorem spsOk_any (l : List Span) : spsOk l = (decide (l.length ≤ 40) && !l.any noSp) := by
 unfold spsOk
 rw [Bool.and_comm]
 congr 1
 rw [List.not_any_eq_all_not]
 congr 1
 funext p
 unfold noSp mayB
 rw [Bool.not_not]
 exact decide_eq_decide.2 (by omega)
set_option maxHeartbeats 1000000 in
theorem maySpans_any (l : List Span) (A : Option Addr) (n c : Nat) (w : World) (hsl : Sl w w.heap.size A (sps l)) (hn : l.length = n) (hnm : n ≤ 1099511627776) : Calls Tryz.prog 75 #[.slice A n c] w (Has w (spsOk l)) := by
 rw [spsOk_any, hn]
 have Hc := Lib.hid (hasSp14_any l A n c w hsl hn hnm)
 generalize l.any noSp = b at *
 clear hn hsl
 by_cases h : n ≤ 40
 ·have d0 : decide ((n : Int) ≤ 40) = true := decide_eq_true (by omega)
  rw [decide_eq_true h, Bool.true_and]
  go_enter Tryz.func75, Tryz.ntmps75
  go_wp2_with fail
  refine (Hc.out).mono ?_
  rintro e w1 ⟨rfl, f1⟩
  go_wp2
  go_ret
  exact ⟨rfl, f1⟩
 ·have d0 : decide ((n : Int) ≤ 40) = false := decide_eq_false (by omega)
  rw [decide_eq_false h, Bool.false_and]
  go_enter Tryz.func75, Tryz.ntmps75
  go_wp2
  go_ret
  exact ⟨rfl, Fr.refl _ _⟩
end Go.Proofs.YtmeimhpllemjfaaGreat
/- Package units: may a node be? May a history? -/
namespace Go.Proofs.YtmeimhpllemjfaaGreat
open Go.RowKit

theorem selfOk_eq (x : PCt) (n : Nd) : selfOk x n = (decide (0 ≤ n.saga) && (x.hasS n.cls n.step && (spsOk n.rd && spsOk n.wt))) := by
 unfold selfOk PCt.hasS
 cases decide (0 ≤ n.saga) <;> cases x.has n.cls <;> cases spsOk n.rd <;> cases spsOk n.wt <;> simp
set_option maxRecDepth 100000 in
set_option maxHeartbeats 4000000 in
theorem mayBe_any (x : Ctl) (a : Ndl) (w : World) (hx : Clss w x.cA x.cls) (ha : a.Ok w) (h1 : a.n.rd.length ≤ 1099511627776) (h2 : a.n.wt.length ≤ 1099511627776) : Calls Tryz.prog 52 #[x.agg, a.agg] w (Has w (selfOk x.p a.n)) := by
 rw [selfOk_eq]
 have HS := Lib.hid (fun W (h : Fr No w W) => hasStep_any x a.n.cls a.n.step W (hx.since h))
 have HR := Lib.hid (fun W (h : Fr No w W) => maySpans_any a.n.rd a.rA a.n.rd.length a.rc W ((ha.since h).rd) rfl h1)
 have HW := Lib.hid (fun W (h : Fr No w W) => maySpans_any a.n.wt a.wA a.n.wt.length a.wc W ((ha.since h).wt) rfl h2)
 generalize x.p.hasS a.n.cls a.n.step = b1 at *
 generalize spsOk a.n.rd = b2 at *
 generalize spsOk a.n.wt = b3 at *
 unfold Ctl.agg at HS ⊢
 obtain ⟨Z, hZ⟩ : ∃ Z, Z = x.arr := ⟨_, rfl⟩
 rw [← hZ] at HS ⊢
 rw [Ctl.arr_eq] at hZ
 obtain ⟨W0, hW0⟩ : ∃ W0, W0 = w.alloc (.cells Z 26) := ⟨_, rfl⟩
 have bZ : Bk W0 w.heap.size 26 Z := by rw [hW0]; exact Bk.made w _ _
 have HF0 : Hid (Fr No w W0) := Lib.hid (by rw [hW0]; exact (Fr.refl _ _).alloc _)
 have HLd : Hid (∀ V, Fr No W0 V → LdO V 26 ⟨w.heap.size, 0, none⟩ (.agg Z) ∧ V.cell? ⟨w.heap.size, 0, none⟩ = some (.slice x.cA x.cls.length x.cc)) := Lib.hid (fun V h => ⟨ld_cat hZ (bZ.fr h (fun e => e)), by rw [(bZ.fr h (fun e => e)).cell, hZ]; rfl⟩)
 have hwe := hW0.symm
 clear hZ hW0 bZ
 unfold Ndl.agg Ndl.arr
 obtain ⟨W1, hW1⟩ : ∃ W1, W1 = W0.alloc (.cells #[.int .i64 a.n.saga, .int .i64 a.n.cls, .int .i64 a.n.step, .bool a.n.back, .slice a.rA a.n.rd.length a.rc, .slice a.wA a.n.wt.length a.wc] 37) := ⟨_, rfl⟩
 have bA : Bk W1 W0.heap.size 37 #[.int .i64 a.n.saga, .int .i64 a.n.cls, .int .i64 a.n.step, .bool a.n.back, .slice a.rA a.n.rd.length a.rc, .slice a.wA a.n.wt.length a.wc] := by rw [hW1]; exact Bk.made _ _ _
 have f01 : Fr No W0 W1 := by rw [hW1]; exact (Fr.refl _ _).alloc _
 have HF1 := Lib.hid (HF0.out.trans' f01 (fun _ _ e => e))
 have HbA := Lib.hid (fun V (h : Fr No W1 V) => bA.fr h (fun e => e))
 have HL := Lib.hid (fun V (h : Fr No W1 V) => (HLd.out V (f01.trans' h (fun _ _ e => e))).1)
 have hwe2 := hW1.symm
 clear hx ha h1 h2 HLd f01 bA hW1
 generalize a.n.saga = sa at *
 generalize a.n.cls = ca at *
 generalize a.n.step = ta at *
 generalize a.n.back = ka at *
 generalize a.n.rd.length = na at *
 generalize a.n.wt.length = ma at *
 generalize a.rA = Ra at *
 generalize a.rc = rca at *
 generalize a.wA = Va at *
 generalize a.wc = wca at *
 have bx0 := HbA.out _ (Fr.refl _ _)
 have q00 := bx0.cell 0
 have q10 := bx0.cell 1
 have q20 := bx0.cell 2
 have q30 := bx0.cell 3
 have q40 := bx0.cell 4
 have q50 := bx0.cell 5
 simp only [List.getElem?_toArray, List.getElem?_cons_zero, List.getElem?_cons_succ] at q00 q10 q20 q30 q40 q50
 have HL0 := Lib.hid (HL.out _ (Fr.refl _ _))
 clear bx0
 by_cases h0 : 0 ≤ sa
 ·have d0 : decide (0 ≤ sa) = true := decide_eq_true h0
  have d0' : ¬ (sa < 0) := by omega
  rw [d0, Bool.true_and]
  have HS1 := Lib.hid (HS.out _ HF1.out)
  clear HS
  go_enter Tryz.func52, Tryz.ntmps52
  go_wp2_with (first
   | ((with_reducible refine wpl_ldg ?_ ?_ HL0.out ?_); (· rfl); (· rfl); simp only [Act.put, szA, szB, szC]))
  refine (HS1.out).mono ?_
  rintro e w1 ⟨rfl, f1⟩
  have F1 := Lib.hid f1
  have HR1 := Lib.hid (HR.out _ (HF1.out.trans' f1 (fun _ _ e => e)))
  have bx1 := HbA.out _ f1
  have q01 := bx1.cell 0
  have q11 := bx1.cell 1
  have q21 := bx1.cell 2
  have q31 := bx1.cell 3
  have q41 := bx1.cell 4
  have q51 := bx1.cell 5
  simp only [List.getElem?_toArray, List.getElem?_cons_zero, List.getElem?_cons_succ] at q01 q11 q21 q31 q41 q51
  clear f1 HS1 bx1 q00 q10 q20 q30 q40 q50
  cases b1
  ·go_wp2
   go_ret
   exact ⟨rfl, HF1.out.trans' F1.out (fun _ _ e => e)⟩
  go_wp2_with fail
  refine (HR1.out).mono ?_
  rintro e w2 ⟨rfl, f2⟩
  have F2 := Lib.hid (F1.out.trans' f2 (fun _ _ e => e))
  have HW2 := Lib.hid (HW.out _ (HF1.out.trans' F2.out (fun _ _ e => e)))
  have bx2 := HbA.out _ F2.out
  have q02 := bx2.cell 0
  have q12 := bx2.cell 1
  have q22 := bx2.cell 2
  have q32 := bx2.cell 3
  have q42 := bx2.cell 4
  have q52 := bx2.cell 5
  simp only [List.getElem?_toArray, List.getElem?_cons_zero, List.getElem?_cons_succ] at q02 q12 q22 q32 q42 q52
  clear f2 HR1 bx2 q01 q11 q21 q31 q41 q51
  cases b2
  ·go_wp2
   go_ret
   exact ⟨rfl, HF1.out.trans' F2.out (fun _ _ e => e)⟩
  go_wp2_with fail
  refine (HW2.out).mono ?_
  rintro e w3 ⟨rfl, f3⟩
  go_wp2
  go_ret
  exact ⟨rfl, HF1.out.trans' (F2.out.trans' f3 (fun _ _ e => e)) (fun _ _ e => e)⟩
 ·have d0 : decide (0 ≤ sa) = false := decide_eq_false h0
  rw [d0, Bool.false_and]
  clear HS HR HW
  go_enter Tryz.func52, Tryz.ntmps52
  go_wp2
  go_ret
  exact ⟨rfl, HF1.out⟩
theorem ndAt_take (h : List Nd) {j k : Nat} (hj : j < k) : ndAt (h.take k) j = ndAt h j := by
 unfold ndAt
 rw [List.getD_eq_getElem?_getD, List.getD_eq_getElem?_getD, List.getElem?_take, if_pos hj]
theorem lastN_take (h : List Nd) (s : Int) (k : Nat) : ∀ i, i ≤ k → lastN (h.take k) s i = lastN h s i
 | 0, _ => rfl
 | i + 1, hi => by
  have e : ndAt (h.take k) i = ndAt h i := ndAt_take h (by omega)
  unfold lastN
  rw [e, lastN_take h s k i (by omega)]
theorem ndOk_eq (x : PCt) (h : List Nd) {k : Nat} (hk : k < h.length) : ndOk x h k = (selfOk x (ndAt h k) && folB (h.take k) (ndAt h k)) := by
 unfold ndOk folB
 have hl : (h.take k).length = k := by rw [List.length_take]; omega
 rw [hl, lastN_take h _ k k (Nat.le_refl _)]
 congr 1
 by_cases h0 : lastN h (ndAt h k).saga k = 0
 ·rw [if_pos h0, if_pos h0]
 ·rw [if_neg h0, if_neg h0]
  have hle := lastN_le h (ndAt h k).saga k
  rw [ndAt_take h (show lastN h (ndAt h k).saga k - 1 < k by omega)]
theorem ndsOf_take (h : List Ndl) (k : Nat) : ndsOf (h.take k) = (ndsOf h).take k := by simp [ndsOf, List.map_take]
theorem flat_take (h : List Ndl) {k : Nat} (hk : k ≤ h.length) : (h.take k).flatMap Ndl.cells = (h.flatMap Ndl.cells).take (k * 6) := by
 induction h generalizing k with
 | nil => simp
 | cons a r ih =>
  cases k with
  | zero => simp
  | succ k =>
   have e : a.cells.length = 6 := rfl
   rw [List.take_succ_cons, List.flatMap_cons, ih (by simpa using hk), List.flatMap_cons, show (k + 1) * 6 = a.cells.length + k * 6 by rw [e]; omega, List.take_length_add_append]
theorem step_small {x : PCt} (hok : x.ok = true) {n : Nd} (h : selfOk x n = true) : -1000 ≤ n.step ∧ n.step ≤ 1000 := by
 obtain ⟨-, h2, -, -, h5, h6⟩ := selfOk_parts h
 unfold PCt.has at h2
 rw [decide_eq_true_eq] at h2
 have := (pct_len4 hok (c := n.cls.toNat) (by omega)).2
 unfold PCt.steps at h6
 omega
structure Nds.Few (h : List Ndl) : Prop where
 all : ∀ x ∈ h, x.n.rd.length ≤ 1048576 ∧ x.n.wt.length ≤ 1048576
theorem mayH_bad {x : PCt} {h : List Nd} {k : Nat} (hk : k < h.length) (hb : ndOk x h k = false) : mayH x h = false := by
 unfold mayH
 rw [range_all_not _ hk hb, Bool.and_false, Bool.and_false]
theorem mayH_all {x : PCt} {h : List Nd} (hok : x.ok = true) (h1 : h.length ≤ 100) (ha : (List.range h.length).all (ndOk x h) = true) : mayH x h = true := by
 unfold mayH
 rw [hok, decide_eq_true h1, ha]
 rfl
set_option maxRecDepth 100000 in
set_option maxHeartbeats 8000000 in
theorem mayU_any (x : Ctl) (h : List Ndl) (A : Option Addr) (N c : Nat) (w : World) (hx : Clss w x.cA x.cls) (hB : x.Big) (hh : Nds w A h) (hN : h.length = N) (hNm : N ≤ 1048576) (hNc : N ≤ c) (hf : Nds.Few h) :
  Calls Tryz.prog 33 #[x.agg, .slice A N c] w (Has w (mayH x.p (ndsOf h))) := by
 have HM := Lib.hid (fun W (hW : Fr No w W) => may14_any x W (hx.since hW) hB)
 have hlen : (ndsOf h).length = N := by simp [ndsOf, hN]
 have HMB := Lib.hid (fun (k : Nat) (hk : k < h.length) W (hW : Fr No w W) => mayBe_any x h[k] W (hx.since hW) ((hh.since hW).all _ (List.getElem_mem hk)) (by have := (hf.all _ (List.getElem_mem hk)).1; omega) (by have := (hf.all _ (List.getElem_mem hk)).2; omega))
 have HFo := Lib.hid (fun (k : Nat) (hk : k < h.length) (hs : ∀ j (hj : j < h.length), j < k → -1000 ≤ h[j].n.step ∧ h[j].n.step ≤ 1000) W (hW : Fr No w W) (cc : Nat) => follows_any (h.take k) A k cc h[k] W (by rw [flat_take h (by omega)]; exact ((hh.since hW).sl).take _) (by rw [List.length_take]; omega) (by omega) (fun y hy => by
  obtain ⟨j, hj, rfl⟩ := List.getElem_of_mem hy
  rw [List.length_take] at hj
  rw [List.getElem_take]
  exact hs j (by omega) (by omega)))
 have HOk := Lib.hid (fun (k : Nat) (hk : k < h.length) => show ndOk x.p (ndsOf h) k = (selfOk x.p h[k].n && folB (ndsOf (h.take k)) h[k].n) by
  rw [ndOk_eq x.p (ndsOf h) (by omega), ndsOf_at hk, ndsOf_take])
 have HSm := Lib.hid (fun (hok : x.p.ok = true) (k : Nat) (hk : k < h.length) (hs : ndOk x.p (ndsOf h) k = true) => show -1000 ≤ h[k].n.step ∧ h[k].n.step ≤ 1000 by
  have := step_small hok (ndOk_self hs)
  rwa [ndsOf_at hk] at this)
 have Hbad := Lib.hid (fun (k : Nat) (hk : k < h.length) (hb : ndOk x.p (ndsOf h) k = false) => mayH_bad (by omega) hb)
 have Hall := Lib.hid (fun (hok : x.p.ok = true) (h1 : N ≤ 100) (ha : (List.range N).all (ndOk x.p (ndsOf h)) = true) => show mayH x.p (ndsOf h) = true from mayH_all hok (by rw [hlen]; exact h1) (by rw [hlen]; exact ha))
 have Hnc : Hid (mayH x.p (ndsOf h) = true → x.p.ok = true ∧ N ≤ 100) := Lib.hid (fun e => ⟨mayH_cat e, by have := mayH_len e; omega⟩)
 have Hnd := Lib.hid (fun (k : Nat) (hk : k < h.length) W (hW : Fr No w W) => (hh.since hW).sl.nd hk)
 generalize mayH x.p (ndsOf h) = r at *
 generalize ndOk x.p (ndsOf h) = ck at *
 unfold Ctl.agg at HM HMB ⊢
 obtain ⟨Z, hZ⟩ : ∃ Z, Z = x.arr := ⟨_, rfl⟩
 rw [← hZ] at HM HMB ⊢
 rw [Ctl.arr_eq] at hZ
 obtain ⟨W0, hW0⟩ : ∃ W0, W0 = w.alloc (.cells Z 26) := ⟨_, rfl⟩
 have bZ : Bk W0 w.heap.size 26 Z := by rw [hW0]; exact Bk.made w _ _
 have HF0 : Hid (Fr No w W0) := Lib.hid (by rw [hW0]; exact (Fr.refl _ _).alloc _)
 have HLd : Hid (∀ V, Fr No W0 V → LdO V 26 ⟨w.heap.size, 0, none⟩ (.agg Z) ∧ V.cell? ⟨w.heap.size, 0, none⟩ = some (.slice x.cA x.cls.length x.cc)) := Lib.hid (fun V h => ⟨ld_cat hZ (bZ.fr h (fun e => e)), by rw [(bZ.fr h (fun e => e)).cell, hZ]; rfl⟩)
 have hwe := hW0.symm
 clear hZ hW0 bZ
 have HL := Lib.hid (fun V (hV : Fr No W0 V) => (HLd.out V hV).1)
 have HN := Lib.hid hN
 clear hx hB hh hf hN hlen HLd
 by_cases h100 : 100 < N
 ·have d0 : decide (100 < (N : Int)) = true := decide_eq_true (by omega)
  have HT : Hid (r = false) := Lib.hid (by
   cases r
   ·rfl
   ·have := (Hnc.out rfl).2
    omega)
  clear HM HMB HFo HOk HSm Hbad Hall Hnd HL
  go_enter Tryz.func33, Tryz.ntmps33
  go_wp2
  go_ret
  exact ⟨by rw [HT.out]; rfl, HF0.out⟩
 have d0 : decide (100 < (N : Int)) = false := decide_eq_false (by omega)
 have HL0 := Lib.hid (HL.out _ (Fr.refl _ _))
 have HM0 := Lib.hid (HM.out _ HF0.out)
 obtain ⟨ok, hok⟩ : ∃ b, x.p.ok = b := ⟨_, rfl⟩
 rw [hok] at HM0
 clear HM
 cases ok
 ·have HT : Hid (r = false) := Lib.hid (by
   cases r
   ·rfl
   ·have := (Hnc.out rfl).1
    rw [hok] at this
    cases this)
  clear HMB HFo HOk HSm Hbad Hall Hnd hok
  go_enter Tryz.func33, Tryz.ntmps33
  go_wp2_with (first
   | ((with_reducible refine wpl_ldg ?_ ?_ HL0.out ?_); (· rfl); (· rfl); simp only [Act.put, szA, szB, szC]))
  refine (HM0.out).mono ?_
  rintro e w1 ⟨rfl, f1⟩
  go_wp2
  go_ret
  exact ⟨by rw [HT.out]; rfl, HF0.out.trans' f1 (fun _ _ e => e)⟩
 have HSm2 := Lib.hid (HSm.out hok)
 have Hall2 := Lib.hid (Hall.out hok (by omega))
 clear HSm Hall hok Hnc
 go_enter Tryz.func33, Tryz.ntmps33
 go_wp2_with (first
  | ((with_reducible refine wpl_ldg ?_ ?_ HL0.out ?_); (· rfl); (· rfl); simp only [Act.put, szA, szB, szC]))
 refine (HM0.out).mono ?_
 rintro e w1 ⟨rfl, f1⟩
 have F1 := Lib.hid f1
 clear f1 HM0 HL0 hwe
 go_wp2
 go_loopw [17] (fun iv wr => ∃ k : Nat, k ≤ N ∧ iv = .int .i64 (k : Int) ∧ Hid ((List.range k).all ck = true) ∧ Hid (Fr No W0 wr)) (fun iv _ => N - (intOf iv).toNat)
 case atStart => exact ⟨0, Nat.zero_le _, rfl, Lib.hid rfl, F1⟩
 case round =>
  obtain ⟨k, hk, rfl, hpre, hfr⟩ := hrel
  by_cases hlt : k < N
  ·have hkl : k < h.length := by rw [HN.out]; exact hlt
   have hkN : ((k : Nat) : Int) < (N : Int) := by omega
   obtain ⟨ad, rfl, hab, a0, a1, a2, a3, a4, a5⟩ := Hnd.out k hkl wr (HF0.out.trans' hfr.out (fun _ _ e => e))
   have hC1 := Lib.hid (fun W hW => HMB.out k hkl W hW)
   have hs : ∀ j (hj : j < h.length), j < k → -1000 ≤ h[j].n.step ∧ h[j].n.step ≤ 1000 := fun j hj hjk => HSm2.out j hj (range_all_at hpre.out hjk)
   have hC2 := Lib.hid (fun W hW cc => HFo.out k hkl hs W hW cc)
   have Hck := Lib.hid (HOk.out k hkl)
   have Hst : Hid (ck k = true → (List.range (k + 1)).all ck = true) := Lib.hid (fun e => by rw [range_all_snoc, hpre.out, e]; rfl)
   have Hb := Lib.hid (Hbad.out k hkl)
   generalize selfOk x.p h[k].n = b1 at *
   generalize folB (ndsOf (h.take k)) h[k].n = b2 at *
   unfold Ndl.agg Ndl.arr at hC1 hC2
   generalize h[k] = a at *
   clear hpre hs HMB HFo HOk Hbad Hnd HSm2
   generalize a.n.saga = sa at *
   generalize a.n.cls = ca at *
   generalize a.n.step = ta at *
   generalize a.n.back = ka at *
   generalize a.n.rd.length = na at *
   generalize a.n.wt.length = ma at *
   generalize a.rA = Ra at *
   generalize a.rc = rca at *
   generalize a.wA = Va at *
   generalize a.wc = wca at *
   obtain ⟨V1, hV1⟩ : ∃ V1, V1 = wr.alloc (.cells #[.int .i64 sa, .int .i64 ca, .int .i64 ta, .bool ka, .slice Ra na rca, .slice Va ma wca] 37) := ⟨_, rfl⟩
   have bA : Bk V1 wr.heap.size 37 #[.int .i64 sa, .int .i64 ca, .int .i64 ta, .bool ka, .slice Ra na rca, .slice Va ma wca] := by rw [hV1]; exact Bk.made _ _ _
   have FV1 : Hid (Fr No W0 V1) := Lib.hid (by rw [hV1]; exact hfr.out.alloc _)
   have HbA := Lib.hid (fun V (hV : Fr No V1 V) => bA.fr hV (fun e => e))
   go_wp2_with fail
   rw [← hV1]
   generalize wr.heap.size = P at *
   clear hV1 bA a0 a1 a2 a3 a4 a5
   have HSS : Hid (∀ V, Fr No V1 V → LdO V 26 ⟨w.heap.size, 0, none⟩ (.agg Z) ∧ V.cell? ⟨P, 0, none⟩ = some (.int .i64 sa) ∧ V.cell? ⟨P, 1, none⟩ = some (.int .i64 ca) ∧ V.cell? ⟨P, 2, none⟩ = some (.int .i64 ta) ∧ V.cell? ⟨P, 3, none⟩ = some (.bool ka) ∧ V.cell? ⟨P, 4, none⟩ = some (.slice Ra na rca) ∧ V.cell? ⟨P, 5, none⟩ = some (.slice Va ma wca)) := Lib.hid (fun V hV => ⟨HL.out _ (FV1.out.trans' hV (fun _ _ e => e)), (HbA.out V hV).cell 0, (HbA.out V hV).cell 1, (HbA.out V hV).cell 2, (HbA.out V hV).cell 3, (HbA.out V hV).cell 4, (HbA.out V hV).cell 5⟩)
   have D0 : Hid (Fr No V1 V1.drew) := Lib.hid ((Fr.refl No V1).drew)
   go_cut [33] from 22 to 33 (fun s wx => s = .bool (!(b1 && b2)) ∧ Hid (Fr No V1 wx))
   case first =>
    cases b1
    ·refine wp_region_held_drew (S := fun V => LdO V 26 ⟨w.heap.size, 0, none⟩ (.agg Z) ∧ V.cell? ⟨P, 0, none⟩ = some (.int .i64 sa) ∧ V.cell? ⟨P, 1, none⟩ = some (.int .i64 ca) ∧ V.cell? ⟨P, 2, none⟩ = some (.int .i64 ta) ∧ V.cell? ⟨P, 3, none⟩ = some (.bool ka) ∧ V.cell? ⟨P, 4, none⟩ = some (.slice Ra na rca) ∧ V.cell? ⟨P, 5, none⟩ = some (.slice Va ma wca)) (by kernel_rfl) (HSS.out _ D0.out) (fun hHeld => ?_)
     refine any_tk 22 (.agg Z) (i := 0) rfl rfl (by kernel_rfl) (fun _ _ _ h => h) (by rfl) (by intro w hSw; exact exec_ld rfl hSw.1) (by assumption) ?_
     simp only [Act.put, szA, szB, szC]
     refine any_u 23 (.agg #[.int .i64 sa, .int .i64 ca, .int .i64 ta, .bool ka, .slice Ra na rca, .slice Va ma wca]) (i := 1) rfl rfl ?_
     simp only [Act.put, szA, szB, szC]
     refine wpAnyH_ready (rs := [2]) (by kernel_rfl) (by simp) ?_
     refine AllReadyH.cons rfl (fun K' hK => ?_) AllReadyH.nil
     go_simp
     go_at_call 52
     refine (hC1.out _ (HF0.out.trans' (FV1.out.trans' D0.out (fun _ _ e => e)) (fun _ _ e => e))).mono ?_
     rintro e' w2 ⟨rfl, f2⟩
     have D2 := Lib.hid (D0.out.trans' f2 (fun _ _ e => e))
     clear f2
     dsimp only
     refine hK.out _ _ (HSS.out _ D2.out) (fun hHeld => ?_)
     clear hK
     try simp only [Act.put, szA, szB, szC]
     refine any_u 25 (.bool true) (i := 3) rfl rfl ?_
     simp only [Act.put, szA, szB, szC]
     refine any_u 26 (.bool true) (i := 4) rfl rfl ?_
     simp only [Act.put, szA, szB, szC]
     refine any_v 27 (i := 5) rfl rfl ?_
     simp only [Act.put, szA, szB, szC]
     refine any_v 28 (i := 6) rfl rfl ?_
     simp only [Act.put, szA, szB, szC]
     refine any_v 29 (i := 7) rfl rfl ?_
     simp only [Act.put, szA, szB, szC]
     refine any_v 30 (i := 8) rfl rfl ?_
     simp only [Act.put, szA, szB, szC]
     refine any_v 31 (i := 9) rfl rfl ?_
     simp only [Act.put, szA, szB, szC]
     refine any_v 32 (i := 10) rfl rfl ?_
     simp only [Act.put, szA, szB, szC]
     refine any_u 33 (.bool true) (i := 11) rfl rfl ?_
     simp only [Act.put, szA, szB, szC]
     refine wpAnyH_done (by kernel_rfl) ?_ _
     clear hHeld
     go_wp2
     go_meet
     exact ⟨rfl, D2⟩
    ·refine wp_region_held_drew (S := fun V => LdO V 26 ⟨w.heap.size, 0, none⟩ (.agg Z) ∧ V.cell? ⟨P, 0, none⟩ = some (.int .i64 sa) ∧ V.cell? ⟨P, 1, none⟩ = some (.int .i64 ca) ∧ V.cell? ⟨P, 2, none⟩ = some (.int .i64 ta) ∧ V.cell? ⟨P, 3, none⟩ = some (.bool ka) ∧ V.cell? ⟨P, 4, none⟩ = some (.slice Ra na rca) ∧ V.cell? ⟨P, 5, none⟩ = some (.slice Va ma wca)) (by kernel_rfl) (HSS.out _ D0.out) (fun hHeld => ?_)
     refine any_tk 22 (.agg Z) (i := 0) rfl rfl (by kernel_rfl) (fun _ _ _ h => h) (by rfl) (by intro w hSw; exact exec_ld rfl hSw.1) (by assumption) ?_
     simp only [Act.put, szA, szB, szC]
     refine any_u 23 (.agg #[.int .i64 sa, .int .i64 ca, .int .i64 ta, .bool ka, .slice Ra na rca, .slice Va ma wca]) (i := 1) rfl rfl ?_
     simp only [Act.put, szA, szB, szC]
     refine wpAnyH_ready (rs := [2]) (by kernel_rfl) (by simp) ?_
     refine AllReadyH.cons rfl (fun K' hK => ?_) AllReadyH.nil
     go_simp
     go_at_call 52
     refine (hC1.out _ (HF0.out.trans' (FV1.out.trans' D0.out (fun _ _ e => e)) (fun _ _ e => e))).mono ?_
     rintro e' w2 ⟨rfl, f2⟩
     have D2 := Lib.hid (D0.out.trans' f2 (fun _ _ e => e))
     clear f2
     dsimp only
     refine hK.out _ _ (HSS.out _ D2.out) (fun hHeld => ?_)
     clear hK
     try simp only [Act.put, szA, szB, szC]
     refine any_u 25 (.bool false) (i := 3) rfl rfl ?_
     simp only [Act.put, szA, szB, szC]
     refine any_u 26 (.bool false) (i := 4) rfl rfl ?_
     simp only [Act.put, szA, szB, szC]
     refine any_u 27 (.slice (some ad) N c) (i := 5) rfl rfl ?_
     simp only [Act.put, szA, szB, szC]
     refine any_u 28 (.int .i64 (k : Int)) (i := 6) rfl rfl ?_
     simp only [Act.put, szA, szB, szC]
     refine any_tk 29 (.slice (some ad) k c) (i := 7) rfl rfl (by kernel_rfl) (fun _ _ _ h => h) (by rfl) (by intro w hSw; (try dsimp only at hSw); go_simp; first | with_reducible rfl | (intro hck; exfalso; omega)) (by assumption) ?_
     simp only [Act.put, szA, szB, szC]
     refine any_u 30 (.agg #[.int .i64 sa, .int .i64 ca, .int .i64 ta, .bool ka, .slice Ra na rca, .slice Va ma wca]) (i := 8) rfl rfl ?_
     simp only [Act.put, szA, szB, szC]
     refine wpAnyH_ready (rs := [9]) (by kernel_rfl) (by simp) ?_
     refine AllReadyH.cons rfl (fun K' hK => ?_) AllReadyH.nil
     go_simp
     go_at_call 53
     refine (hC2.out _ (HF0.out.trans' (FV1.out.trans' D2.out (fun _ _ e => e)) (fun _ _ e => e)) c).mono ?_
     rintro e' w3 ⟨rfl, f3⟩
     have D3 := Lib.hid (D2.out.trans' f3 (fun _ _ e => e))
     clear f3
     dsimp only
     refine hK.out _ _ (HSS.out _ D3.out) (fun hHeld => ?_)
     clear hK
     try simp only [Act.put, szA, szB, szC]
     refine any_u 32 (.bool (!b2)) (i := 10) rfl rfl ?_
     simp only [Act.put, szA, szB, szC]
     refine any_u 33 (.bool (!b2)) (i := 11) rfl rfl ?_
     simp only [Act.put, szA, szB, szC]
     refine wpAnyH_done (by kernel_rfl) ?_ _
     clear hHeld
     go_wp2
     go_meet
     exact ⟨by first | rfl | simp, D3⟩
   case rest =>
    obtain ⟨rfl, D3⟩ := hcut
    have FF := Lib.hid (FV1.out.trans' D3.out (fun _ _ e => e))
    clear HSS D0 hC1 hC2 HbA
    cases hb : (b1 && b2)
    ·have HT : Hid (r = false) := Lib.hid (Hb.out (by rw [Hck.out, hb]))
     clear Hst Hb Hck hb
     go_wp2
     go_ret
     exact ⟨by rw [HT.out]; rfl, HF0.out.trans' FF.out (fun _ _ e => e)⟩
    ·have HS2 := Lib.hid (Hst.out (by rw [Hck.out, hb]))
     clear Hst Hb Hck hb
     go_wp2
     go_roundw
     case rel => exact ⟨k + 1, by omega, by go_num, HS2, FF⟩
     case measure => simp [intOf]; omega
  ·obtain rfl : k = N := by omega
   have HT := Lib.hid (Hall2.out hpre.out)
   clear hpre HMB HFo HOk Hbad Hnd HSm2 Hall2
   go_wp2
   go_ret
   exact ⟨by rw [HT.out]; rfl, HF0.out.trans' hfr.out (fun _ _ e => e)⟩
end Go.Proofs.YtmeimhpllemjfaaGreat
