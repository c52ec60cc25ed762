/- The law 'FootCovers', walked. -/
import Derived.Test.YthincpklokgjhaaCov10
namespace Go.Proofs.Ythincpklokgjhaa
open Go.RowKit

set_option maxHeartbeats 4000000 in
theorem footCovers_any (l : List Fsp) (gs : List Int) (rd wt : List (Int × Int)) (A A2 B1 B2 : Option Addr) (m c k c2 n1 q1 n2 q2 : Nat) (w : World) (hsl : Sl w w.heap.size A (l.flatMap Fsp.cells)) (hm : l.length = m) (hs2 : Sl w w.heap.size A2 (ints gs)) (hk : gs.length = k)
    (hr1 : Sl w w.heap.size B1 (sps rd)) (hn1 : rd.length = n1) (hr2 : Sl w w.heap.size B2 (sps wt)) (hn2 : wt.length = n2) :
    Calls Try.prog 4 #[.slice A m c, .slice A2 k c2, .slice B1 n1 q1, .slice B2 n2 q2] w (Has w true) := by
  have Hm := Lib.hid hm
  have Hk := Lib.hid hk
  have Hsl := Lib.hid hsl
  have Hs2 := Lib.hid hs2
  have Hr1 := Lib.hid hr1
  have Hr2 := Lib.hid hr2
  have Hn1 := Lib.hid hn1
  have Hn2 := Lib.hid hn2
  clear hm hk hsl hs2 hr1 hr2 hn1 hn2
  go_enter Try.func4, Try.ntmps4
  go_wp2_with fail
  refine (alive10 _).mono ?_
  rintro e w1 ⟨rfl, hf1⟩
  by_cases h20 : 20 < m
  · have d0 : decide (20 < (m : Int)) = true := by simp; omega
    go_wp2
    go_ret
    exact ⟨rfl, hf1⟩
  have d0 : decide (20 < (m : Int)) = false := by simp; omega
  by_cases h10 : 10 < k
  · have d1 : decide (10 < (k : Int)) = true := by simp; omega
    go_wp2
    go_ret
    exact ⟨rfl, hf1⟩
  have d1 : decide (10 < (k : Int)) = false := by simp; omega
  by_cases h30 : 30 < n1
  · have d2 : decide (30 < (n1 : Int)) = true := by simp; omega
    go_wp2
    go_ret
    exact ⟨rfl, hf1⟩
  have e2 : decide (30 < (n1 : Int)) = false := by simp; omega
  by_cases h31 : 30 < n2
  · have d3 : decide (30 < (n2 : Int)) = true := by simp; omega
    go_wp2
    go_ret
    exact ⟨rfl, hf1⟩
  have e3 : decide (30 < (n2 : Int)) = false := by simp; omega
  have CC := Lib.hid (fun (W : World) (h : Fr No w W) => covers_any l gs rd wt A A2 B1 B2 m c k c2 n1 q1 n2 q2 W (Hsl.out.since h) Hm.out (by omega) (Hs2.out.since h) Hk.out (by omega) ⟨Hr1.out.since h, Hn1.out, by omega⟩ ⟨Hr2.out.since h, Hn2.out, by omega⟩)
  have CT := Lib.hid (fun (W : World) (h : Fr No w W) => refRight_any l gs A A2 m c k c2 W (Hsl.out.since h) Hm.out (Hs2.out.since h) Hk.out (by omega))
  have CO1 := Lib.hid (fun (W : World) (h : Fr No w W) => refOf4_any rd n1 B1 q1 W (Hr1.out.since h) Hn1.out (by omega))
  have CO2 := Lib.hid (fun (W : World) (h : Fr No w W) => refOf4_any wt n2 B2 q2 W (Hr2.out.since h) Hn2.out (by omega))
  have HF1 := Lib.hid hf1
  clear hf1 h20 h10 h30 h31
  unfold coversB at CC
  cases hr : footRight l gs
  · rw [hr] at CC CT
    rw [Bool.false_and] at CC
    clear hr
    go_wp2_with fail
    refine (CT.out _ HF1.out).mono ?_
    rintro e w2 ⟨rfl, hf2⟩
    have HF2 := Lib.hid (HF1.out.trans' hf2 (fun _ _ h => h))
    clear hf2
    go_wp2_with fail
    refine (CC.out _ HF2.out).mono ?_
    rintro e w3 ⟨rfl, hf3⟩
    go_wp2
    go_ret
    exact ⟨rfl, HF2.out.then0 hf3 (fun _ h => h.elim)⟩
  · rw [hr] at CC CT
    rw [Bool.true_and] at CC
    have CA := Lib.hid (fun (W : World) (h : Fr No w W) => refSet10_any false l gs A A2 m c k c2 W (Hsl.out.since h) Hm.out (Hs2.out.since h) Hk.out hr)
    have CB := Lib.hid (fun (W : World) (h : Fr No w W) => refSet10_any true l gs A A2 m c k c2 W (Hsl.out.since h) Hm.out (Hs2.out.since h) Hk.out hr)
    have CI1 := Lib.hid (fun (W : World) g1 g2 (h1 : Bk W g1 70 (flags 1000 (keysOf rd))) (h2 : Bk W g2 70 (flags 1000 (keysOf (chosen false gs l)))) => refInside10_any g1 g2 _ _ W h1 h2)
    have CI2 := Lib.hid (fun (W : World) g1 g2 (h1 : Bk W g1 70 (flags 1000 (keysOf wt))) (h2 : Bk W g2 70 (flags 1000 (keysOf (chosen true gs l)))) => refInside10_any g1 g2 _ _ W h1 h2)
    clear hr
    generalize insideS (keysOf rd) (keysOf (chosen false gs l)) = b1 at *
    generalize insideS (keysOf wt) (keysOf (chosen true gs l)) = b2 at *
    generalize keysOf (chosen false gs l) = s1 at *
    generalize keysOf (chosen true gs l) = s2 at *
    generalize keysOf rd = s3 at *
    generalize keysOf wt = s4 at *
    go_wp2_with fail
    refine (CT.out _ HF1.out).mono ?_
    rintro e w2 ⟨rfl, hf2⟩
    have HF2 := Lib.hid (HF1.out.trans' hf2 (fun _ _ h => h))
    clear hf2 CT HF1
    go_wp2_with fail
    refine (CO1.out _ HF2.out).mono ?_
    rintro e w3 ⟨ga, rfl, hga, -, hf3⟩
    have HF3 := Lib.hid (HF2.out.trans' hf3 (fun _ _ h => h))
    have HGA := Lib.hid hga
    clear hf3 hga
    go_wp2_with fail
    refine (CA.out _ HF3.out).mono ?_
    rintro e w4 ⟨gb, rfl, hgb, -, hf4⟩
    have HF4 := Lib.hid (HF3.out.trans' hf4 (fun _ _ h => h))
    have HG4 := Lib.hid (And.intro (HGA.out.fr hf4 (fun e => e)) hgb)
    clear hf4 hgb HGA
    go_wp2_with fail
    refine (CI1.out _ _ _ HG4.out.1 HG4.out.2).mono ?_
    rintro e w5 ⟨rfl, rfl⟩
    cases b1
    · rw [Bool.false_and] at CC
      go_wp2_with fail
      refine (CC.out _ HF4.out).mono ?_
      rintro e w6 ⟨rfl, hf6⟩
      go_wp2
      go_ret
      exact ⟨rfl, HF4.out.then0 hf6 (fun _ h => h.elim)⟩
    · rw [Bool.true_and] at CC
      clear HG4
      go_wp2_with fail
      refine (CO2.out _ HF4.out).mono ?_
      rintro e w6 ⟨gc, rfl, hgc, -, hf6⟩
      have HF6 := Lib.hid (HF4.out.trans' hf6 (fun _ _ h => h))
      have HGC := Lib.hid hgc
      clear hf6 hgc
      go_wp2_with fail
      refine (CB.out _ HF6.out).mono ?_
      rintro e w7 ⟨gd, rfl, hgd, -, hf7⟩
      have HF7 := Lib.hid (HF6.out.trans' hf7 (fun _ _ h => h))
      have HG7 := Lib.hid (And.intro (HGC.out.fr hf7 (fun e => e)) hgd)
      clear hf7 hgd HGC
      go_wp2_with fail
      refine (CI2.out _ _ _ HG7.out.1 HG7.out.2).mono ?_
      rintro e w8 ⟨rfl, rfl⟩
      have t1 : (b2 == b2) = true := by simp
      go_wp2_with fail
      refine (CC.out _ HF7.out).mono ?_
      rintro e w9 ⟨rfl, hf9⟩
      go_wp2
      go_ret
      exact ⟨by simp, HF7.out.then0 hf9 (fun _ h => h.elim)⟩
end Go.Proofs.Ythincpklokgjhaa
