/- The law 'FootSpans', walked. -/
import Derived.Test.YthincpklokgjhaaCov10
namespace Go.Proofs.Ythincpklokgjhaa
open Go.RowKit

set_option maxHeartbeats 4000000 in
theorem footSpans_any (l : List Fsp) (n : Int) (gs : List Int) (A A2 : Option Addr) (m c k c2 : Nat) (w : World) (hsl : Sl w w.heap.size A (l.flatMap Fsp.cells)) (hm : l.length = m) (hs2 : Sl w w.heap.size A2 (ints gs)) (hk : gs.length = k) :
    Calls Try.prog 3 #[.slice A m c, .int .i64 n, .slice A2 k c2] w (Has w true) := by
  have Hm := Lib.hid hm
  have Hk := Lib.hid hk
  have Hsl := Lib.hid hsl
  have Hs2 := Lib.hid hs2
  clear hm hk hsl hs2
  go_enter Try.func3, Try.ntmps3
  go_wp2_with fail
  refine (alive10 _).mono ?_
  rintro e w1 ⟨rfl, hf1⟩
  by_cases h20 : 20 < m
  · have d0 : decide (20 < (m : Int)) = true := by simp; omega
    go_wp2
    go_ret
    exact ⟨rfl, hf1⟩
  have d0 : decide (20 < (m : Int)) = false := by simp; omega
  by_cases h10 : 10 < k
  · have d1 : decide (10 < (k : Int)) = true := by simp; omega
    go_wp2
    go_ret
    exact ⟨rfl, hf1⟩
  have d1 : decide (10 < (k : Int)) = false := by simp; omega
  have CS := Lib.hid (fun (W : World) (h : Fr No w W) => spans_any l gs A A2 m c k c2 W (Hsl.out.since h) Hm.out (by omega) (Hs2.out.since h) Hk.out (by omega))
  have CM := Lib.hid (fun (W : World) (h : Fr No w W) => fMay_any l n A m c W (Hsl.out.since h) Hm.out (by omega))
  have CR := Lib.hid (fun (W : World) (h : Fr No w W) => refMay10_any l n A m c W (Hsl.out.since h) Hm.out)
  have CT := Lib.hid (fun (W : World) (h : Fr No w W) => refRight_any l gs A A2 m c k c2 W (Hsl.out.since h) Hm.out (Hs2.out.since h) Hk.out (by omega))
  have HF1 := Lib.hid hf1
  have hm0 : Hid (m ≤ 1099511627776) := Lib.hid (by omega)
  have hk0 : Hid (k ≤ 1099511627776) := Lib.hid (by omega)
  clear hf1 h20 h10
  go_wp2_with fail
  refine (CS.out _ HF1.out).mono ?_
  rintro e w2 ⟨hf2, hcase⟩
  have HF2 := Lib.hid (HF1.out.trans' hf2 (fun _ _ h => h))
  clear hf2 HF1
  rcases hcase with ⟨hr, rfl⟩ | ⟨hr, P, pc, Q, qc, rfl, hP, hQ⟩
  · rw [hr] at CT
    go_wp2_with fail
    refine (CM.out _ HF2.out).mono ?_
    rintro e w3 ⟨rfl, hf3⟩
    have HF3 := Lib.hid (HF2.out.trans' hf3 (fun _ _ h => h))
    clear hf3
    go_wp2_with fail
    refine (CR.out _ HF3.out).mono ?_
    rintro e w4 ⟨rfl, hf4⟩
    have HF4 := Lib.hid (HF3.out.trans' hf4 (fun _ _ h => h))
    clear hf4
    have hb : (footOk l n != footOk l n) = false := by simp
    generalize footOk l n = b at *
    go_wp2_with fail
    refine (CT.out _ HF4.out).mono ?_
    rintro e w5 ⟨rfl, hf5⟩
    go_wp2
    go_ret
    exact ⟨rfl, HF4.out.then0 hf5 (fun _ h => h.elim)⟩
  · have CA := Lib.hid (fun (W : World) (h : Fr No w W) => refSet10_any false l gs A A2 m c k c2 W (Hsl.out.since h) Hm.out (Hs2.out.since h) Hk.out hr)
    have CB := Lib.hid (fun (W : World) (h : Fr No w W) => refSet10_any true l gs A A2 m c k c2 W (Hsl.out.since h) Hm.out (Hs2.out.since h) Hk.out hr)
    have hl1 := plainTo_len (keysOf (chosen false gs l)) 1000
    have hl2 := plainTo_len (keysOf (chosen true gs l)) 1000
    change (plainOf (keysOf (chosen false gs l))).length ≤ 1000 at hl1
    change (plainOf (keysOf (chosen true gs l))).length ≤ 1000 at hl2
    have CC := Lib.hid (fun (W : World) (h : Fr No w W) (h1 : Sl W W.heap.size P _) (h2 : Sl W W.heap.size Q _) => covers_any l gs (plainOf (keysOf (chosen false gs l))) (plainOf (keysOf (chosen true gs l))) A A2 P Q m c k c2 _ pc _ qc W (Hsl.out.since h) Hm.out hm0.out (Hs2.out.since h) Hk.out hk0.out ⟨h1, rfl, by omega⟩ ⟨h2, rfl, by omega⟩)
    rw [covers_self hr] at CC
    have Hin := Lib.hid (writes_read gs l)
    have CP1 := Lib.hid (fun (W : World) g (h : Bk W g 70 (flags 1000 (keysOf (chosen false gs l)))) => refPlain4_any g _ W h)
    have CP2 := Lib.hid (fun (W : World) g (h : Bk W g 70 (flags 1000 (keysOf (chosen true gs l)))) => refPlain4_any g _ W h)
    have CI := Lib.hid (fun (W : World) g1 g2 (h1 : Bk W g1 70 (flags 1000 (keysOf (chosen true gs l)))) (h2 : Bk W g2 70 (flags 1000 (keysOf (chosen false gs l)))) => refInside10_any g1 g2 _ _ W h1 h2)
    rw [Hin.out] at CI
    rw [hr] at CT
    have HP := Lib.hid hP
    have HQ := Lib.hid hQ
    clear hP hQ Hin
    generalize plainOf (keysOf (chosen false gs l)) = z1 at *
    generalize plainOf (keysOf (chosen true gs l)) = z2 at *
    generalize keysOf (chosen false gs l) = s1 at *
    generalize keysOf (chosen true gs l) = s2 at *
    go_wp2_with fail
    refine (CM.out _ HF2.out).mono ?_
    rintro e w3 ⟨rfl, hf3⟩
    have HF3 := Lib.hid (HF2.out.trans' hf3 (fun _ _ h => h))
    have HP3 := Lib.hid (And.intro (HP.out.since hf3) (HQ.out.since hf3))
    clear hf3 HP HQ
    go_wp2_with fail
    refine (CR.out _ HF3.out).mono ?_
    rintro e w4 ⟨rfl, hf4⟩
    have HF4 := Lib.hid (HF3.out.trans' hf4 (fun _ _ h => h))
    have HP4 := Lib.hid (And.intro (HP3.out.1.since hf4) (HP3.out.2.since hf4))
    clear hf4 HP3
    have hb : (footOk l n != footOk l n) = false := by simp
    generalize footOk l n = b at *
    go_wp2_with fail
    refine (CT.out _ HF4.out).mono ?_
    rintro e w5 ⟨rfl, hf5⟩
    have HF5 := Lib.hid (HF4.out.trans' hf5 (fun _ _ h => h))
    have HP5 := Lib.hid (And.intro (HP4.out.1.since hf5) (HP4.out.2.since hf5))
    clear hf5 HP4 hb
    go_wp2_with fail
    refine (CA.out _ HF5.out).mono ?_
    rintro e w6 ⟨ga, rfl, hga, hgl, hf6⟩
    have HF6 := Lib.hid (HF5.out.trans' hf6 (fun _ _ h => h))
    have HP6 := Lib.hid (And.intro (HP5.out.1.since hf6) (HP5.out.2.since hf6))
    have HGA6 := Lib.hid hga
    clear hf6 HP5 hga hgl
    go_wp2_with fail
    refine (CB.out _ HF6.out).mono ?_
    rintro e w7 ⟨gb, rfl, hgb, hgl, hf7⟩
    have HF7 := Lib.hid (HF6.out.trans' hf7 (fun _ _ h => h))
    have HP7 := Lib.hid (And.intro (HP6.out.1.since hf7) (HP6.out.2.since hf7))
    have HG7 := Lib.hid (And.intro (HGA6.out.fr hf7 (fun e => e)) hgb)
    clear hf7 HP6 hgb hgl HGA6
    go_wp2_with fail
    refine (CP1.out _ _ HG7.out.1).mono ?_
    rintro e w8 ⟨P8, p8, rfl, hs8, hf8⟩
    have HF8 := Lib.hid (HF7.out.trans' hf8 (fun _ _ h => h))
    have HP8 := Lib.hid (And.intro (HP7.out.1.since hf8) (HP7.out.2.since hf8))
    have HG8 := Lib.hid (And.intro (HG7.out.1.fr hf8 (fun e => e)) (HG7.out.2.fr hf8 (fun e => e)))
    have HS8 := Lib.hid hs8
    clear hf8 HP7 HG7 hs8
    have t1 : decide (z1 = z1) = true := by simp
    have t2 : decide (z2 = z2) = true := by simp
    have hz1 : z1.length ≤ 1099511627776 := by omega
    have hz2 : z2.length ≤ 1099511627776 := by omega
    have CS1 := Lib.hid (fun (W : World) (h1 : Sl W W.heap.size P (sps z1)) (h2 : Sl W W.heap.size P8 (sps z1)) => refSame4_any z1 z1 P P8 z1.length z1.length pc p8 W h1 h2 rfl rfl hz1 hz1)
    have CS2 := Lib.hid (fun (W : World) (P9 : Option Addr) (p9 : Nat) (h1 : Sl W W.heap.size Q (sps z2)) (h2 : Sl W W.heap.size P9 (sps z2)) => refSame4_any z2 z2 Q P9 z2.length z2.length qc p9 W h1 h2 rfl rfl hz2 hz2)
    rw [t1] at CS1
    rw [t2] at CS2
    clear t1 t2 hz1 hz2 hl1 hl2 CS CM CR CT CA CB CP1
    go_wp2_with fail
    refine (CS1.out _ HP8.out.1 HS8.out).mono ?_
    rintro e w9 ⟨rfl, hf9⟩
    have HF9 := Lib.hid (HF8.out.trans' hf9 (fun _ _ h => h))
    have HP9 := Lib.hid (And.intro (HP8.out.1.since hf9) (HP8.out.2.since hf9))
    have HG9 := Lib.hid (And.intro (HG8.out.1.fr hf9 (fun e => e)) (HG8.out.2.fr hf9 (fun e => e)))
    clear hf9 HP8 HG8 HS8
    go_wp2_with fail
    refine (CP2.out _ _ HG9.out.2).mono ?_
    rintro e wA ⟨P9, p9, rfl, hsA, hfA⟩
    have HFA := Lib.hid (HF9.out.trans' hfA (fun _ _ h => h))
    have HPA := Lib.hid (And.intro (HP9.out.1.since hfA) (HP9.out.2.since hfA))
    have HGA := Lib.hid (And.intro (HG9.out.1.fr hfA (fun e => e)) (HG9.out.2.fr hfA (fun e => e)))
    have HSA := Lib.hid hsA
    clear hfA HP9 HG9 hsA
    go_wp2_with fail
    refine (CS2.out _ _ _ HPA.out.2 HSA.out).mono ?_
    rintro e wB ⟨rfl, hfB⟩
    have HFB := Lib.hid (HFA.out.trans' hfB (fun _ _ h => h))
    have HPB := Lib.hid (And.intro (HPA.out.1.since hfB) (HPA.out.2.since hfB))
    have HGB := Lib.hid (And.intro (HGA.out.1.fr hfB (fun e => e)) (HGA.out.2.fr hfB (fun e => e)))
    clear hfB HPA HGA HSA
    go_wp2_with fail
    refine (CI.out _ _ _ HGB.out.2 HGB.out.1).mono ?_
    rintro e wC ⟨rfl, rfl⟩
    go_wp2_with fail
    refine (CC.out _ HFB.out HPB.out.1 HPB.out.2).mono ?_
    rintro e wD ⟨rfl, hfD⟩
    go_wp2
    go_ret
    exact ⟨rfl, HFB.out.then0 hfD (fun _ h => h.elim)⟩
end Go.Proofs.Ythincpklokgjhaa
