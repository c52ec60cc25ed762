/- Package units: does a node come next of its saga? Which spans may it have? -/
import Derived.Test.YtkihbjgmmaklaaaLas14
import Derived.Test.YtkihbjgmmaklaaaBds14
import Derived.Test.YtkihbjgmmaklaaaMay4
namespace Go.Proofs.Ytkihbjgmmaklaaa
open Go.RowKit

set_option maxHeartbeats 1000000 in
theorem follows1_any (a b : Ndl) (q : Nat) (w : World) (hq : Bk w q 44 b.arr) : Calls Try.prog 57 #[a.agg, .pointer (some ⟨q, 0, none⟩)] w (Has w (sagaB b.n.saga a.n)) := by
  unfold sagaB
  unfold Ndl.agg
  unfold Ndl.arr at *
  have f0 : Fr No w (w.alloc (.cells #[.int .i64 a.n.saga, .int .i64 a.n.cls, .int .i64 a.n.step, .bool a.n.back, .slice a.rA a.n.rd.length a.rc, .slice a.wA a.n.wt.length a.wc] 44)) := (Fr.refl _ _).alloc _
  have x0 := (hq.fr f0 (fun e => e)).cell 0
  simp only [List.getElem?_toArray, List.getElem?_cons_zero] at x0
  clear hq
  generalize a.n.saga = sa at *
  generalize a.n.cls = ca at *
  generalize a.n.step = ta at *
  generalize a.n.back = ka at *
  generalize a.n.rd.length = na at *
  generalize a.n.wt.length = ma at *
  generalize a.rA = Ra at *
  generalize a.rc = rca at *
  generalize a.wA = Va at *
  generalize a.wc = wca at *
  generalize b.n.saga = sb at *
  generalize b.n.cls = cb at *
  generalize b.n.step = tb at *
  generalize b.n.back = kb at *
  generalize b.n.rd.length = nb at *
  generalize b.n.wt.length = mb at *
  generalize b.rA = Rb at *
  generalize b.rc = rcb at *
  generalize b.wA = Vb at *
  generalize b.wc = wcb at *
  by_cases h : sa = sb
  · subst h
    rw [decide_eq_true (rfl : sa = sa)]
    go_enter Try.func57, Try.ntmps57
    go_wp2
    go_ret
    exact ⟨by first | rfl | (simp; done), f0⟩
  · have d1 : decide (sa = sb) = false := decide_eq_false h
    have d2 : (sa == sb) = false := by simpa using h
    rw [d1]
    go_enter Try.func57, Try.ntmps57
    go_wp2
    go_ret
    exact ⟨by first | rfl | (simp [h]; done), f0⟩
/-- May a node follow those of a history? -/
def folB (h : List Nd) (b : Nd) : Bool := if lastN h b.saga h.length = 0 then !b.back && decide (b.step = 0) else nextOk (ndAt h (lastN h b.saga h.length - 1)) b
set_option maxRecDepth 100000 in
set_option maxHeartbeats 4000000 in
theorem follows_any (h : List Ndl) (A : Option Addr) (N c : Nat) (b : Ndl) (w : World) (hh : Sl w w.heap.size A (h.flatMap Ndl.cells)) (hN : h.length = N) (hl : N ≤ 1099511627776) (hst : ∀ x ∈ h, -1000 ≤ x.n.step ∧ x.n.step ≤ 1000) :
    Calls Try.prog 36 #[.slice A N c, b.agg] w (Has w (folB (ndsOf h) b.n)) := by
  have hlen : (ndsOf h).length = N := by simp [ndsOf, hN]
  have hfol : folB (ndsOf h) b.n = if lastN (ndsOf h) b.n.saga N = 0 then !b.n.back && decide (b.n.step = 0) else nextOk (ndAt (ndsOf h) (lastN (ndsOf h) b.n.saga N - 1)) b.n := by unfold folB; rw [hlen]
  have bB := Bk.made w 44 b.arr
  have f0 : Fr No w (w.alloc (.cells b.arr 44)) := (Fr.refl _ _).alloc _
  have HLa := Lib.hid (lastF14 h A N c w.heap.size (fun k => sagaB b.n.saga (ndAt (ndsOf h) k)) (w.alloc (.cells b.arr 44)) (hh.since f0) hN hl (fun x W hW => by
    rw [ndsOf_at x.2]
    exact follows1_any (h[x.1]'x.2) b w.heap.size W ((hW.block _ (by simp)).trans bB)))
  rw [lastN_P] at HLa
  obtain ⟨W0, hW0⟩ : ∃ W0, W0 = w.alloc (.cells b.arr 44) := ⟨_, rfl⟩
  rw [← hW0] at HLa bB f0
  have HF0 := Lib.hid f0
  have HBb := Lib.hid (fun V (hV : Fr No W0 V) => bB.fr hV (fun e => e))
  have Hle := lastN_le (ndsOf h) b.n.saga N
  have Hat := Lib.hid (fun (k : Nat) (hk : k < h.length) V (hV : Fr No w V) => (hh.since hV).nd hk)
  have Hnd := Lib.hid (fun (k : Nat) (hk : k < h.length) => ndsOf_at (l := h) hk)
  have Hst := Lib.hid (fun (k : Nat) (hk : k < h.length) => hst _ (List.getElem_mem hk))
  have Hr := Lib.hid hfol
  generalize folB (ndsOf h) b.n = r at *
  generalize lastN (ndsOf h) b.n.saga N = j at *
  unfold Ndl.agg
  unfold Ndl.arr at *
  have hwe := hW0.symm
  have HNk := Lib.hid (fun (x : Nd) => show nextOk x b.n = (decide (b.n.cls = x.cls) && (decide (b.n.step = if b.n.back = true then (if x.back = true then x.step - 1 else x.step) else x.step + 1) && !(x.back && !b.n.back))) from rfl)
  clear hh hst hfol hlen bB f0 hW0
  have HN := Lib.hid hN
  clear hN
  by_cases hj : j = 0
  · subst hj
    have Hr2 : Hid (r = (!b.n.back && decide (b.n.step = 0))) := Lib.hid (by rw [Hr.out]; rfl)
    clear Hr Hat Hnd Hst HNk
    generalize b.n.saga = sb at *
    generalize b.n.cls = cb at *
    generalize b.n.step = tb at *
    generalize b.n.back = kb at *
    generalize b.n.rd.length = nb at *
    generalize b.n.wt.length = mb at *
    generalize b.rA = Rb at *
    generalize b.rc = rcb at *
    generalize b.wA = Vb at *
    generalize b.wc = wcb at *
    by_cases h0 : tb = 0
    · subst h0
      have HT : Hid (r = !kb) := Lib.hid (by rw [Hr2.out]; simp)
      clear Hr2
      go_enter Try.func36, Try.ntmps36
      go_wp2_with fail
      refine (HLa.out).mono ?_
      rintro e w1 ⟨rfl, f1⟩
      have bxn := HBb.out w1 f1
      have q2n := bxn.cell 2
      have q3n := bxn.cell 3
      simp only [List.getElem?_toArray, List.getElem?_cons_zero, List.getElem?_cons_succ] at q2n q3n
      have HF1 := Lib.hid (HF0.out.trans' f1 (fun _ _ e => e))
      clear f1 HLa bxn
      cases kb
      · go_wp2
        go_ret
        exact ⟨by rw [HT.out]; rfl, HF1.out⟩
      · go_wp2
        go_ret
        exact ⟨by rw [HT.out]; rfl, HF1.out⟩
    · have d0 : decide (tb = 0) = false := decide_eq_false h0
      have HT : Hid (r = false) := Lib.hid (by rw [Hr2.out, d0, Bool.and_false])
      clear Hr2
      go_enter Try.func36, Try.ntmps36
      go_wp2_with fail
      refine (HLa.out).mono ?_
      rintro e w1 ⟨rfl, f1⟩
      have bxn := HBb.out w1 f1
      have q2n := bxn.cell 2
      have q3n := bxn.cell 3
      simp only [List.getElem?_toArray, List.getElem?_cons_zero, List.getElem?_cons_succ] at q2n q3n
      have HF1 := Lib.hid (HF0.out.trans' f1 (fun _ _ e => e))
      clear f1 HLa bxn
      go_wp2
      go_ret
      exact ⟨by rw [HT.out]; rfl, HF1.out⟩
  · obtain ⟨k, rfl⟩ : ∃ k, j = k + 1 := ⟨j - 1, by omega⟩
    have hk : k < h.length := by rw [HN.out]; omega
    have hkN : ((k : Nat) : Int) < (N : Int) := by omega
    have Hr2 : Hid (r = nextOk (h[k]'hk).n b.n) := Lib.hid (by rw [Hr.out, if_neg (by omega), Nat.add_sub_cancel, Hnd.out k hk])
    rw [HNk.out] at Hr2
    have hst := Hst.out k hk
    have HA2 := Lib.hid (fun V hV => Hat.out k hk V hV)
    have hkk : (((k + 1 : Nat) : Int) - 1) = (k : Int) := by omega
    rw [hkk] at HLa
    clear Hr Hat Hnd Hst HNk hkk hj
    generalize h[k] = a at *
    generalize b.n.saga = sb at *
    generalize b.n.cls = cb at *
    generalize b.n.step = tb at *
    generalize b.n.back = kb at *
    generalize b.n.rd.length = nb at *
    generalize b.n.wt.length = mb at *
    generalize b.rA = Rb at *
    generalize b.rc = rcb at *
    generalize b.wA = Vb at *
    generalize b.wc = wcb at *
    generalize a.n.saga = sa at *
    generalize a.n.cls = ca at *
    generalize a.n.step = ta at *
    generalize a.n.back = ka at *
    generalize a.n.rd.length = na at *
    generalize a.n.wt.length = ma at *
    generalize a.rA = Ra at *
    generalize a.rc = rca at *
    generalize a.wA = Va at *
    generalize a.wc = wca at *
    go_enter Try.func36, Try.ntmps36
    go_wp2_with fail
    refine (HLa.out).mono ?_
    rintro e w1 ⟨rfl, f1⟩
    have F1 := Lib.hid f1
    obtain ⟨ad, rfl, hab, a0, a1, a2, a3, a4, a5⟩ := HA2.out w1 (HF0.out.trans' f1 (fun _ _ e => e))
    have f2 : Fr No w1 (w1.alloc (.cells #[.int .i64 sa, .int .i64 ca, .int .i64 ta, .bool ka, .slice Ra na rca, .slice Va ma wca] 44)) := (Fr.refl _ _).alloc _
    have bxn := HBb.out _ (f1.trans' f2 (fun _ _ e => e))
    have q1n := bxn.cell 1
    have q2n := bxn.cell 2
    have q3n := bxn.cell 3
    simp only [List.getElem?_toArray, List.getElem?_cons_zero, List.getElem?_cons_succ] at q1n q2n q3n
    have HF2 := Lib.hid (HF0.out.trans' (f1.trans' f2 (fun _ _ e => e)) (fun _ _ e => e))
    clear f1 f2 HLa HA2 bxn F1
    by_cases hc : cb = ca
    · have d1 : decide (cb = ca) = true := decide_eq_true hc
      have d1' : (cb != ca) = false := by simp [hc]
      rw [d1] at Hr2
      cases kb
      · cases ka
        · by_cases ht : tb = ta + 1
          · have HT : Hid (r = true) := Lib.hid (by rw [Hr2.out]; simp [ht])
            subst ht
            clear Hr2
            go_wp2
            go_ret
            exact ⟨by rw [HT.out]; first | rfl | (simp; done) | (simp; omega), HF2.out⟩
          · have HT : Hid (r = false) := Lib.hid (by rw [Hr2.out]; simp [ht])
            have d2 : decide (tb = ta + 1) = false := decide_eq_false ht
            have d3 : (tb == ta + 1) = false := by simpa using ht
            clear Hr2
            go_wp2
            go_ret
            exact ⟨by rw [HT.out]; first | rfl | simp [ht], HF2.out⟩
        · have HT : Hid (r = false) := Lib.hid (by rw [Hr2.out]; simp)
          clear Hr2
          go_wp2
          go_ret
          exact ⟨by rw [HT.out]; rfl, HF2.out⟩
      · cases ka
        · by_cases ht : tb = ta
          · have HT : Hid (r = true) := Lib.hid (by rw [Hr2.out]; simp [ht])
            subst ht
            clear Hr2
            go_wp2
            go_ret
            exact ⟨by rw [HT.out]; first | rfl | (simp; done) | (simp; omega), HF2.out⟩
          · have HT : Hid (r = false) := Lib.hid (by rw [Hr2.out]; simp [ht])
            have d2 : decide (tb = ta) = false := decide_eq_false ht
            have d3 : (tb == ta) = false := by simpa using ht
            clear Hr2
            go_wp2
            go_ret
            exact ⟨by rw [HT.out]; first | rfl | simp [ht], HF2.out⟩
        · by_cases ht : tb = ta - 1
          · have HT : Hid (r = true) := Lib.hid (by rw [Hr2.out]; simp [ht])
            subst ht
            clear Hr2
            go_wp2
            go_ret
            exact ⟨by rw [HT.out]; first | rfl | (simp; done) | (simp; omega), HF2.out⟩
          · have HT : Hid (r = false) := Lib.hid (by rw [Hr2.out]; simp [ht])
            have d2 : decide (tb = ta - 1) = false := decide_eq_false ht
            have d3 : (tb == ta - 1) = false := by simpa using ht
            clear Hr2
            go_wp2
            go_ret
            exact ⟨by rw [HT.out]; first | rfl | simp [ht], HF2.out⟩
    · have d1 : decide (cb = ca) = false := decide_eq_false hc
      have d1' : (cb != ca) = true := by simpa using hc
      rw [d1] at Hr2
      have HT : Hid (r = false) := Lib.hid (by rw [Hr2.out]; rfl)
      clear Hr2
      go_wp2
      go_ret
      exact ⟨by rw [HT.out]; rfl, HF2.out⟩

set_option maxHeartbeats 1000000 in
theorem maySp1_any (a b : Int) (w : World) : Calls Try.prog 77 #[.agg #[.int .i64 a, .int .i64 b]] w (Has w (!mayB a b)) := by
  have C := Lib.hid (fun W => kMay_any a b W)
  generalize mayB a b = r at *
  have HF0 : Hid (Fr No w (w.alloc (.cells #[.int .i64 a, .int .i64 b] 84))) := Lib.hid ((Fr.refl _ _).alloc _)
  go_enter Try.func77, Try.ntmps77
  go_wp2_with fail
  refine (C.out _).mono ?_
  rintro e w1 ⟨rfl, f1⟩
  go_wp2
  go_ret
  exact ⟨rfl, HF0.out.trans' f1 (fun _ _ e => e)⟩
/-- A place that a search told, or none. -/
def At14 (w : World) (b : Bool) (e : Ending) (w' : World) : Prop := Fr No w w' ∧ ∃ r : Int, e = .returned (.int .i64 r) ∧ decide (0 ≤ r) = b
theorem any_step14 {α : Type} (p : α → Bool) (l : List α) (k : Nat) (hk : k < l.length) (h : (l.take k).any p = false) : (l.take (k + 1)).any p = p l[k] := by
  rw [List.take_succ_eq_append_getElem hk, List.any_append, h]
  simp
theorem any_found14 {α : Type} (p : α → Bool) (l : List α) (k : Nat) (hk : k < l.length) (h : p l[k] = true) : l.any p = true := List.any_eq_true.2 ⟨_, List.getElem_mem hk, h⟩
def noSp (s : Span) : Bool := !mayB s.1 s.2
set_option maxHeartbeats 1000000 in
theorem idxSp14_any (l : List Span) (A : Option Addr) (n c : Nat) (w : World) (hsl : Sl w w.heap.size A (sps l)) (hn : l.length = n) (hnm : n ≤ 1099511627776) : Calls Try.prog 90 #[.slice A n c, .func (.func 77) #[] #[]] w (At14 w (l.any noSp)) := by
  have Hn := Lib.hid hn
  have Hsl := Lib.hid hsl
  clear hn hsl
  go_enter Try.func90, Try.ntmps90
  go_wp2
  go_loopw [8] (fun i wr => ∃ k : Nat, k ≤ n ∧ i = .int .i64 (k : Int) ∧ Hid ((l.take k).any noSp = false) ∧ Fr No w wr) (fun i _ => n - (intOf i).toNat)
  case atStart => exact ⟨0, Nat.zero_le _, rfl, Lib.hid (by simp), Fr.refl _ _⟩
  case round =>
    obtain ⟨k, hk, rfl, hpre, hfr⟩ := hrel
    by_cases hlt : k < n
    · have hkl : k < l.length := by rw [Hn.out]; exact hlt
      obtain ⟨ad, rfl, hab, c0, c1⟩ := (Hsl.out.since hfr).span (k := k) hkl
      have hx := Lib.hid (maySp1_any l[k].1 l[k].2 wr)
      have Hst := Lib.hid (any_step14 noSp l k hkl hpre.out)
      have Hfd := Lib.hid (any_found14 noSp l k hkl)
      change Hid (Calls _ _ _ _ (Has wr (noSp l[k]))) at hx
      generalize noSp l[k] = b at *
      generalize l[k].1 = xa at *
      generalize l[k].2 = xb at *
      clear hpre
      cases b
      · go_wp2_with fail
        refine (hx.out).mono ?_
        rintro e w1 ⟨rfl, hf1⟩
        go_wp2
        go_roundw
        case rel => exact ⟨k + 1, by omega, by go_num, Lib.hid Hst.out, hfr.trans' hf1 (fun _ _ h => h)⟩
        case measure => simp [intOf]; omega
      · go_wp2_with fail
        refine (hx.out).mono ?_
        rintro e w1 ⟨rfl, hf1⟩
        go_wp2
        go_ret
        exact ⟨hfr.trans' hf1 (fun _ _ h => h), k, rfl, by rw [Hfd.out (by first | rfl | trivial)]; simp⟩
    · obtain rfl : k = n := by omega
      go_wp2
      go_ret
      refine ⟨hfr, -1, rfl, ?_⟩
      have h1 := hpre.out
      rw [List.take_of_length_le (by rw [Hn.out]; exact Nat.le_refl _)] at h1
      rw [h1]
      rfl
set_option maxHeartbeats 1000000 in
theorem hasSp14_any (l : List Span) (A : Option Addr) (n c : Nat) (w : World) (hsl : Sl w w.heap.size A (sps l)) (hn : l.length = n) (hnm : n ≤ 1099511627776) : Calls Try.prog 79 #[.slice A n c, .func (.func 77) #[] #[]] w (Has w (l.any noSp)) := by
  have Hc := Lib.hid (idxSp14_any l A n c w hsl hn hnm)
  generalize l.any noSp = b at *
  clear hn hsl
  go_enter Try.func79, Try.ntmps79
  go_wp2_with fail
  refine (Hc.out).mono ?_
  rintro e w1 ⟨hf1, r, rfl, hr⟩
  go_wp2
  go_ret
  exact ⟨by rw [← hr]; rfl, hf1⟩
theorem spsOk_any (l : List Span) : spsOk l = (decide (l.length ≤ 40) && !l.any noSp) := by
  unfold spsOk
  rw [Bool.and_comm]
  congr 1
  rw [List.not_any_eq_all_not]
  congr 1
  funext p
  unfold noSp mayB
  rw [Bool.not_not]
  exact decide_eq_decide.2 (by omega)
set_option maxHeartbeats 1000000 in
theorem maySpans_any (l : List Span) (A : Option Addr) (n c : Nat) (w : World) (hsl : Sl w w.heap.size A (sps l)) (hn : l.length = n) (hnm : n ≤ 1099511627776) : Calls Try.prog 56 #[.slice A n c] w (Has w (spsOk l)) := by
  rw [spsOk_any, hn]
  have Hc := Lib.hid (hasSp14_any l A n c w hsl hn hnm)
  generalize l.any noSp = b at *
  clear hn hsl
  by_cases h : n ≤ 40
  · have d0 : decide ((n : Int) ≤ 40) = true := decide_eq_true (by omega)
    rw [decide_eq_true h, Bool.true_and]
    go_enter Try.func56, Try.ntmps56
    go_wp2_with fail
    refine (Hc.out).mono ?_
    rintro e w1 ⟨rfl, f1⟩
    go_wp2
    go_ret
    exact ⟨rfl, f1⟩
  · have d0 : decide ((n : Int) ≤ 40) = false := decide_eq_false (by omega)
    rw [decide_eq_false h, Bool.false_and]
    go_enter Try.func56, Try.ntmps56
    go_wp2
    go_ret
    exact ⟨rfl, Fr.refl _ _⟩
end Go.Proofs.Ytkihbjgmmaklaaa
