/- The document's own: may a catalogue be? -/
import Derived.Test.YtmeimhpllemjfaaGreatCtp12
import Derived.Test.YtmeimhpllemjfaaGreatRmy11
import Derived.Deep.QuietTactic
import Derived.BigQuiet
namespace Go.Proofs.YtmeimhpllemjfaaGreat
open Go.RowKit

theorem pct_len (x : Ctl) : x.p.cs.length = x.cls.length := by simp [Ctl.p]
theorem nm_at (x : Ctl) {i : Nat} (hi : i < x.cls.length) : (x.p.at i).name = x.cls[i].name := by rw [pct_at x hi]; rfl
theorem st_at (x : Ctl) {i : Nat} (hi : i < x.cls.length) : (x.p.at i).steps.length = x.cls[i].steps.length := by rw [pct_at x hi]; simp [Cls.p]
theorem pok_len {p : PC} (h : p.ok = true) : 1 ≤ p.steps.length ∧ p.steps.length ≤ 4 := by
 unfold PC.ok at h
 simp only [Bool.and_eq_true, decide_eq_true_eq] at h
 exact h.2.2.1

set_option maxRecDepth 100000 in
set_option maxHeartbeats 8000000 in
theorem refMay12_any (x : Ctl) (w : World) (hx : Clss w x.cA x.cls) : Calls Tryz.prog 21 #[x.agg] w (Has w x.p.ok) := by
 have Hok : Hid (x.p.ok = (decide (1 ≤ x.cls.length ∧ x.cls.length ≤ 4) && ((List.range x.cls.length).all (clOkAt x.p) && (List.range 16).all (brOkAt x.p)))) := Lib.hid (by unfold PCt.ok; rw [pct_len])
 have Hcl : Hid (∀ i (hi : i < x.cls.length), clOkAt x.p i = (x.cls[i].p.ok && (List.range i).all fun k => !((x.p.at k).name.toList == x.cls[i].name.toList))) := Lib.hid (fun i hi => by unfold clOkAt; rw [pct_at x hi]; rfl)
 have Hnm := Lib.hid (fun i (hi : i < x.cls.length) => nm_at x hi)
 have Hst := Lib.hid (fun i (hi : i < x.cls.length) => st_at x hi)
 have Hbr : Hid (∀ c d, c < 4 → d < 4 → brOkAt x.p (c * 4 + d) = decide (0 ≤ x.b (c * 4 + d) ∧ x.b (c * 4 + d) < x.p.most c d)) := Lib.hid (fun c d _ hd => by
  unfold brOkAt
  rw [show (c * 4 + d) / 4 = c by omega, show (c * 4 + d) % 4 = d by omega]
  rfl)
 have Hmo : Hid (∀ c d, x.p.most c d = if c < x.cls.length ∧ d < x.cls.length then ((2 ^ ((x.p.at c).steps.length - 1) : Nat) : Int) else 1) := Lib.hid (fun c d => by unfold PCt.most; rw [pct_len])
 have Hx := Lib.hid (fun (W : World) (h : Fr No w W) => hx.since h)
 have HM := Lib.hid (fun i (hi : i < x.cls.length) (W : World) (h : Fr No w W) => refMay11_any x.cls[i] W ((hx.since h).all _ (List.getElem_mem hi)))
 generalize x.p.ok = r at *
 generalize clOkAt x.p = ck at *
 generalize brOkAt x.p = bk at *
 generalize x.p.most = mo at *
 generalize x.p.at = pa at *
 obtain ⟨cA, cls, cc, b⟩ := x
 unfold Ctl.agg Ctl.arr brA
 simp only at *
 obtain ⟨n, hn⟩ : ∃ n, Hid (n = cls.length) := ⟨_, Lib.hid rfl⟩
 rw [← hn.out] at Hok Hmo ⊢
 obtain ⟨W, hW⟩ : ∃ W, Hid (W = w.alloc (.cells (brA (.slice cA n cc) b) 26)) := ⟨_, Lib.hid rfl⟩
 have hf : Fr No w W := by rw [hW.out]; exact (Fr.refl _ _).alloc _
 have hB : Bk W w.heap.size 26 (brA (.slice cA n cc) b) := by rw [hW.out]; exact Bk.made w _ _
 have hwe : w.alloc (.cells #[.slice cA n cc, .int .i64 (b 0), .int .i64 (b 1), .int .i64 (b 2), .int .i64 (b 3), .int .i64 (b 4), .int .i64 (b 5), .int .i64 (b 6), .int .i64 (b 7), .int .i64 (b 8), .int .i64 (b 9), .int .i64 (b 10), .int .i64 (b 11), .int .i64 (b 12), .int .i64 (b 13), .int .i64 (b 14), .int .i64 (b 15)] 26) = W := hW.out.symm
 have x0 : W.cell? ⟨w.heap.size, 0, none⟩ = some (.slice cA n cc) := hB.cell 0
 have l0 := hB.lt
 have HF := Lib.hid hf
 have HB := Lib.hid hB
 clear hx hf hB hW
 by_cases h1 : n < 1
 ·have e1 : decide ((n : Int) < 1) = true := by simp; omega
  have hr : r = false := by rw [Hok.out, decide_eq_false (by omega)]; rfl
  go_enter Tryz.func21, Tryz.ntmps21
  go_wp2
  go_ret
  exact ⟨by rw [hr]; rfl, HF.out⟩
 have e1 : decide ((n : Int) < 1) = false := by simp; omega
 by_cases h4 : 4 < n
 ·have e2 : decide (4 < (n : Int)) = true := by simp; omega
  have hr : r = false := by rw [Hok.out, decide_eq_false (by omega)]; rfl
  go_enter Tryz.func21, Tryz.ntmps21
  go_wp2
  go_ret
  exact ⟨by rw [hr]; rfl, HF.out⟩
 have e2 : decide (4 < (n : Int)) = false := by simp; omega
 have Hok2 : Hid (r = ((List.range n).all ck && (List.range 16).all bk)) := Lib.hid (by rw [Hok.out, decide_eq_true (by omega)]; rfl)
 clear Hok
 go_enter Tryz.func21, Tryz.ntmps21
 go_wp2
 clear hwe x0
 go_loopw [4] (fun iv wr => ∃ i : Nat, i ≤ n ∧ iv = .int .i64 (i : Int) ∧ Hid ((List.range i).all ck = true) ∧ Hid (∀ j, j < i → ∀ hj : j < cls.length, cls[j].p.ok = true) ∧ Hid (Fr No W wr)) (fun iv _ => n - (intOf iv).toNat)
 case atStart => exact ⟨0, Nat.zero_le _, rfl, Lib.hid rfl, Lib.hid (fun j hj => by omega), Lib.hid (Fr.refl _ _)⟩
 case round =>
  obtain ⟨i, hi, rfl, hpre, hall, hg⟩ := hrel
  have b1 := HB.out.fr hg.out (fun e => e)
  have x1 : wr.cell? ⟨w.heap.size, 0, none⟩ = some (.slice cA n cc) := b1.cell 0
  have l1 := b1.lt
  by_cases hlt : i < n
  ·have hil : i < cls.length := by rw [← hn.out]; exact hlt
   have hwr := HF.out.trans' hg.out (fun _ _ e => e)
   obtain ⟨ad, e3, hab, c0, c1, c2, c3, c4⟩ := (Hx.out wr hwr).sl.cls (k := i) hil
   have D1 := Lib.hid (HM.out i hil wr hwr)
   have Hci := Lib.hid (Hcl.out i hil)
   have Hni := Lib.hid (Hnm.out i hil)
   obtain ⟨ok, hok⟩ : ∃ o, Hid (cls[i].p.ok = o) := ⟨_, Lib.hid rfl⟩
   obtain ⟨nm, hnmm⟩ : ∃ q, Hid (cls[i].name = q) := ⟨_, Lib.hid rfl⟩
   rw [hok.out] at D1 Hci
   unfold Cls.agg at D1
   rw [hnmm.out] at c0 Hci Hni D1
   have Hc0 := Lib.hid c0
   generalize cls[i].args = a1 at *
   generalize cls[i].sA = a2 at *
   generalize cls[i].steps.length = a3 at *
   generalize cls[i].sc = a4 at *
   generalize cls[i].uA = a5 at *
   generalize cls[i].comps.length = a6 at *
   generalize cls[i].uc = a7 at *
   generalize cls[i].res = a8 at *
   subst e3
   clear b1
   go_wp2_with fail
   refine (D1.out).mono ?_
   rintro e w2 ⟨rfl, f2⟩
   cases ok
   ·have hr : r = false := by rw [Hok2.out, range_all_not ck hlt (by rw [Hci.out]; rfl)]; rfl
    go_wp2
    go_ret
    exact ⟨by rw [hr]; rfl, (HF.out.trans' hg.out (fun _ _ e => e)).trans' f2 (fun _ _ e => e)⟩
   have hg2 := Lib.hid (hg.out.trans' f2 (fun _ _ e => e))
   have hal : ad.block < wr.heap.size := hab
   clear c0 c1 c2 c3 c4 x1 l1 f2 D1
   go_wp2
   go_loopw [5] (fun kv wx => ∃ k : Nat, k ≤ i ∧ kv = .int .i64 (k : Int) ∧ Hid (((List.range k).all fun k => !((pa k).name.toList == nm.toList)) = true) ∧ Hid (Fr No W wx)) (fun kv _ => i - (intOf kv).toNat)
   case atStart => exact ⟨0, Nat.zero_le _, rfl, Lib.hid rfl, hg2⟩
   case round =>
    obtain ⟨k, hk, rfl, hpk, hgk⟩ := hrel
    have hwx := HF.out.trans' hgk.out (fun _ _ e => e)
    have b2 := HB.out.fr hgk.out (fun e => e)
    have x2 : wr.cell? ⟨w.heap.size, 0, none⟩ = some (.slice (some ad) n cc) := b2.cell 0
    have l2 := b2.lt
    by_cases hk2 : k < i
    ·have hkl : k < cls.length := by omega
     obtain ⟨ae, e4, hae, d0, -⟩ := (Hx.out wr hwx).sl.cls (k := k) hkl
     obtain ⟨af, e5, haf, g0, -⟩ := (Hx.out wr hwx).sl.cls (k := i) hil
     injection e4 with e4
     injection e5 with e5
     subst e4 e5
     rw [hnmm.out] at g0
     have Hnk := Lib.hid (Hnm.out k hkl)
     generalize cls[k].name = q at *
     have i1 : ((k : Nat) : Int) < (n : Int) := by omega
     have i2 : ((i : Nat) : Int) < (n : Int) := by omega
     obtain ⟨eq, heq⟩ : ∃ b, (q.toList == nm.toList) = b := ⟨_, rfl⟩
     have Heq := Lib.hid heq
     clear b2 hwx
     cases eq
     ·have HP : Hid (((List.range (k + 1)).all fun k => !((pa k).name.toList == nm.toList)) = true) := Lib.hid (by rw [range_all_snoc, hpk.out, Hnk.out, Heq.out]; rfl)
      go_wp2
      go_quiet (fail)
      go_wp2
      go_roundw
      case rel => exact ⟨k + 1, by omega, by go_num, HP, Lib.hid (hgk.out.drewN _)⟩
      case measure => simp [intOf]; omega
     ·have hr : r = false := by
       have h1 := range_all_not (fun k => !((pa k).name.toList == nm.toList)) hk2 (by show (!((pa k).name.toList == nm.toList)) = false; rw [Hnk.out, Heq.out]; rfl)
       rw [Hok2.out, range_all_not ck hlt (by rw [Hci.out, h1]; rfl)]
       rfl
      go_wp2
      go_quiet (fail)
      go_wp2
      go_ret
      exact ⟨by rw [hr]; rfl, HF.out.trans' (hgk.out.drewN _) (fun _ _ e => e)⟩
    ·obtain rfl : k = i := by omega
     have HP : Hid ((List.range (k + 1)).all ck = true) := Lib.hid (by rw [range_all_snoc, hpre.out, Hci.out, hpk.out]; rfl)
     have HA : Hid (∀ j, j < k + 1 → ∀ hj : j < cls.length, cls[j].p.ok = true) := Lib.hid (fun j hj hjl => by
      by_cases h : j < k
      ·exact hall.out j h hjl
      ·obtain rfl : j = k := by omega
       exact hok.out)
     clear b2 hwx
     go_wp2
     go_roundw
     case rel => exact ⟨k + 1, by omega, by go_num, HP, HA, hgk⟩
     case measure => simp [intOf]; omega
  ·obtain rfl : i = n := by omega
   have Hall : Hid (∀ c, c < i → ∀ hc : c < cls.length, 1 ≤ cls[c].steps.length ∧ cls[c].steps.length ≤ 4) := Lib.hid (fun c hc hcl => by
    have := pok_len (hall.out c hc hcl)
    simpa [Cls.p] using this)
   have Hok3 : Hid (r = (List.range 16).all bk) := Lib.hid (by rw [Hok2.out, hpre.out]; rfl)
   have hwr := Lib.hid (HF.out.trans' hg.out (fun _ _ e => e))
   have bW := Lib.hid b1
   have Hcs := (Hx.out wr hwr.out).sl
   have HCs := Lib.hid Hcs
   clear b1 hpre hall Hok2 HM Hcl Hnm l1 Hcs Hx HB
   go_wp2
   obtain ⟨W2, hW2⟩ : ∃ W2, Hid (W2 = wr) := ⟨_, Lib.hid rfl⟩
   rw [← hW2.out] at hwr bW HCs x1 ⊢
   have l2 := bW.out.lt
   go_loopw [6] (fun cv wz => ∃ c : Nat, c ≤ 4 ∧ cv = .int .i64 (c : Int) ∧ Hid ((List.range (c * 4)).all bk = true) ∧ wz = W2) (fun cv _ => 4 - (intOf cv).toNat)
   case atStart => exact ⟨0, by omega, rfl, Lib.hid rfl, rfl⟩
   case round =>
    obtain ⟨c, hc, rfl, hpc, rfl⟩ := hrel
    by_cases hc4 : c < 4
    ·go_wp2
     go_loopw [7] (fun dv wz => ∃ d : Nat, d ≤ 4 ∧ dv = .int .i64 (d : Int) ∧ Hid ((List.range (c * 4 + d)).all bk = true) ∧ wz = wr) (fun dv _ => 4 - (intOf dv).toNat)
     case atStart => exact ⟨0, by omega, rfl, hpc, rfl⟩
     case round =>
      obtain ⟨d, hd, rfl, hpd, rfl⟩ := hrel
      by_cases hd4 : d < 4
      ·have Hmcd := Lib.hid (Hmo.out c d)
       obtain ⟨v, hv⟩ : ∃ v, Hid (v = b (c * 4 + d)) := ⟨_, Lib.hid rfl⟩
       have Hbk : Hid (bk (c * 4 + d) = decide (0 ≤ v ∧ v < mo c d)) := Lib.hid (by rw [hv.out]; exact Hbr.out c d hc4 hd4)
       have y1 : wr.cell? ⟨w.heap.size, 1 + c * 4 + d, none⟩ = some (.int .i64 v) := by rw [hv.out]; exact bk_br2 bW.out hc4 hd4
       by_cases hcd : c < i ∧ d < i
       ·have hcl : c < cls.length := by rw [← hn.out]; exact hcd.1
        obtain ⟨ad, e3, hab, -, -, c2, -, -⟩ := HCs.out.cls (k := c) hcl
        obtain ⟨hL1, hL4⟩ := Hall.out c hcd.1 hcl
        have HMo2 : Hid (mo c d = ((2 ^ (cls[c].steps.length - 1) : Nat) : Int)) := Lib.hid (by rw [Hmcd.out, if_pos hcd, Hst.out c hcl])
        generalize cls[c].steps.length = L at *
        generalize cls[c].sA = a2 at *
        generalize cls[c].sc = a4 at *
        subst e3
        obtain ⟨hci, hdi⟩ := hcd
        go_wp2
        go_loopw [8, 9] (fun mv kv wz => ∃ k m : Nat, 1 ≤ k ∧ k ≤ L ∧ kv = .int .i64 (k : Int) ∧ mv = .int .i64 (m : Int) ∧ Hid (m = 2 ^ (k - 1)) ∧ m ≤ 8 ∧ wz = wr) (fun _ kv _ => L - (intOf kv).toNat)
        case atStart => exact ⟨1, 1, by omega, hL1, rfl, rfl, Lib.hid rfl, by omega, rfl⟩
        case round =>
         obtain ⟨k, m, hk1, hkL, rfl, rfl, hm, hm8, rfl⟩ := hrel
         by_cases hkl : k < L
         ·have Hm2 : Hid (2 * m = 2 ^ (k + 1 - 1)) := Lib.hid (by rw [hm.out, show k + 1 - 1 = (k - 1) + 1 by omega, Nat.pow_succ]; omega)
          have hm4 : 2 * m ≤ 8 := by
           have h3 : k = 1 ∨ k = 2 ∨ k = 3 := by omega
           rw [hm.out]
           rcases h3 with rfl | rfl | rfl <;> decide
          go_wp2
          go_roundw
          case rel => exact ⟨k + 1, 2 * m, by omega, by omega, by go_num, by first | rfl | go_num | (simp; done), Hm2, hm4, by first | rfl | trivial⟩
          case measure => simp [intOf]; omega
         ·obtain rfl : k = L := by omega
          have HMo : Hid (mo c d = (m : Int)) := Lib.hid (by rw [HMo2.out, hm.out])
          by_cases hv0 : v < 0
          ·have q0 : decide (v < 0) = true := by simpa using hv0
           have hr : r = false := by rw [Hok3.out, range_all_not bk (k := c * 4 + d) (by omega) (by rw [Hbk.out, decide_eq_false (by omega)])]
           go_wp2
           go_ret
           exact ⟨by first | (rw [hr]; rfl) | rfl, hwr.out⟩
          ·have q0 : decide (v < 0) = false := by simpa using hv0
           by_cases hvm : (m : Int) ≤ v
           ·have q1 : decide ((m : Int) ≤ v) = true := by simpa using hvm
            have hr : r = false := by rw [Hok3.out, range_all_not bk (k := c * 4 + d) (by omega) (by rw [Hbk.out, decide_eq_false (by rw [HMo.out]; omega)])]
            go_wp2
            go_ret
            exact ⟨by first | (rw [hr]; rfl) | rfl, hwr.out⟩
           ·have q1 : decide ((m : Int) ≤ v) = false := by simpa using hvm
            have HPd : Hid ((List.range (c * 4 + (d + 1))).all bk = true) := Lib.hid (by rw [← Nat.add_assoc, range_all_snoc, hpd.out, Hbk.out, decide_eq_true (by rw [HMo.out]; omega)]; rfl)
            go_wp2
            go_roundw
            case rel => exact ⟨d + 1, by omega, by go_num, HPd, by first | rfl | trivial⟩
            case measure => simp [intOf]; omega
       ·have HMo : Hid (mo c d = 1) := Lib.hid (by rw [Hmcd.out, if_neg hcd])
        by_cases hci : c < i
        ·have hdi : ¬ d < i := fun h => hcd ⟨hci, h⟩
         clear hcd
         by_cases hv0 : v < 0
         ·have q0 : decide (v < 0) = true := by simpa using hv0
          have hr : r = false := by rw [Hok3.out, range_all_not bk (k := c * 4 + d) (by omega) (by rw [Hbk.out, decide_eq_false (by omega)])]
          go_wp2
          go_ret
          exact ⟨by first | (rw [hr]; rfl) | rfl, hwr.out⟩
         ·have q0 : decide (v < 0) = false := by simpa using hv0
          by_cases hvm : 1 ≤ v
          ·have q1 : decide (1 ≤ v) = true := by simpa using hvm
           have hr : r = false := by rw [Hok3.out, range_all_not bk (k := c * 4 + d) (by omega) (by rw [Hbk.out, decide_eq_false (by rw [HMo.out]; omega)])]
           go_wp2
           go_ret
           exact ⟨by first | (rw [hr]; rfl) | rfl, hwr.out⟩
          ·have q1 : decide (1 ≤ v) = false := by simpa using hvm
           have HPd : Hid ((List.range (c * 4 + (d + 1))).all bk = true) := Lib.hid (by rw [← Nat.add_assoc, range_all_snoc, hpd.out, Hbk.out, decide_eq_true (by rw [HMo.out]; omega)]; rfl)
           go_wp2
           go_roundw
           case rel => exact ⟨d + 1, by omega, by go_num, HPd, by first | rfl | trivial⟩
           case measure => simp [intOf]; omega
        ·clear hcd
         by_cases hv0 : v < 0
         ·have q0 : decide (v < 0) = true := by simpa using hv0
          have hr : r = false := by rw [Hok3.out, range_all_not bk (k := c * 4 + d) (by omega) (by rw [Hbk.out, decide_eq_false (by omega)])]
          go_wp2
          go_ret
          exact ⟨by first | (rw [hr]; rfl) | rfl, hwr.out⟩
         ·have q0 : decide (v < 0) = false := by simpa using hv0
          by_cases hvm : 1 ≤ v
          ·have q1 : decide (1 ≤ v) = true := by simpa using hvm
           have hr : r = false := by rw [Hok3.out, range_all_not bk (k := c * 4 + d) (by omega) (by rw [Hbk.out, decide_eq_false (by rw [HMo.out]; omega)])]
           go_wp2
           go_ret
           exact ⟨by first | (rw [hr]; rfl) | rfl, hwr.out⟩
          ·have q1 : decide (1 ≤ v) = false := by simpa using hvm
           have HPd : Hid ((List.range (c * 4 + (d + 1))).all bk = true) := Lib.hid (by rw [← Nat.add_assoc, range_all_snoc, hpd.out, Hbk.out, decide_eq_true (by rw [HMo.out]; omega)]; rfl)
           go_wp2
           go_roundw
           case rel => exact ⟨d + 1, by omega, by go_num, HPd, by first | rfl | trivial⟩
           case measure => simp [intOf]; omega
      ·obtain rfl : d = 4 := by omega
       have HPc : Hid ((List.range ((c + 1) * 4)).all bk = true) := Lib.hid (by rw [show (c + 1) * 4 = c * 4 + 4 by omega]; exact hpd.out)
       go_wp2
       go_roundw
       case rel => exact ⟨c + 1, by omega, by go_num, HPc, by first | rfl | trivial⟩
       case measure => simp [intOf]; omega
    ·obtain rfl : c = 4 := by omega
     have hr : r = true := by rw [Hok3.out]; exact hpc.out
     go_wp2
     go_ret
     exact ⟨by first | (rw [hr]; rfl) | rfl, hwr.out⟩
end Go.Proofs.YtmeimhpllemjfaaGreat
