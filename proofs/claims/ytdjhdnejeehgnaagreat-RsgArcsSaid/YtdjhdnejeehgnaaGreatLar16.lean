/- The law: the arcs of any history are the document's. -/
import Derived.Test.YtdjhdnejeehgnaaGreatDoc16
import Derived.Test.YtdjhdnejeehgnaaGreatAlv16
namespace Go.Proofs.YtdjhdnejeehgnaaGreat
open Go.RowKit

theorem eqArc16 (a b c : Int) (w : World) : (Op.equalIn 10000 33 (.agg #[.int .i64 a, .int .i64 b, .int .i64 c]) (.agg #[.int .i64 a, .int .i64 b, .int .i64 c])).run Tryz.prog w = .ok true w := by
 have u3 := Tryz.underlying3
 have i3 : ∀ w, (isAgg 3).run Tryz.prog w = .ok false w := fun w => by simp [isAgg, run_underlying Tryz.underlying3]
 have hs : Tryz.prog.underlying 33 = some (.struct (Tryz.prog.fieldsOf 33)) := by kernel_rfl
 rw [run_equalIn_agg w 9999 33 _ _ hs (by kernel_rfl)]
 simp only [Program.fieldsOf, Tryz.underlying33]
 go_simp
set_option maxRecDepth 100000 in
set_option maxHeartbeats 8000000 in
theorem rsgArcs16_any (x : Ctl) (h : List Ndl) (A : Option Addr) (N c : Nat) (w : World) (hx : Clss w x.cA x.cls) (hs : Nds w A h) (hN : h.length = N) (hNm : N ≤ 9223372036854775807) (hnc : x.cls.length ≤ 9223372036854775807)
  (hal : ∀ W, Fr No w W → Calls Tryz.prog 8 #[] W (Has W true))
  (harc : great16 x.cls h = false → ∀ W, Fr No w W → Calls Tryz.prog 10 #[x.agg, .slice A N c] W fun e w' => ∃ L lc, e = .returned (.slice L (if mayH x.p (ndsOf h) = true then arcsL x.p (ndsOf h) else []).length lc) ∧ Sl w' w'.heap.size L ((if mayH x.p (ndsOf h) = true then arcsL x.p (ndsOf h) else []).flatMap arcC) ∧ Fr No W w') :
  Calls Tryz.prog 3 #[x.agg, .slice A N c] w (Has w true) := by
 have Hal := Lib.hid hal
 have HG := Lib.hid (fun W (hW : Fr No w W) => great16_any x h A N c W (hx.since hW) (hs.since hW) hN hNm hnc)
 have HM := Lib.hid (fun (hg : great16 x.cls h = false) W (hW : Fr No w W) => mayD16 x h A N c W (hx.since hW) (hs.since hW) hN (by have := (few_of_great16 hg).2.1; omega) (few_of_great16 hg).2.2)
 have HR := Lib.hid (fun (hg : great16 x.cls h = false) (hm : mayH x.p (ndsOf h) = true) W (hW : Fr No w W) => arcsD16 x h A N c W (hx.since hW) (hs.since hW) hN (few_of_great16 hg).2.2 hm)
 have HP := Lib.hid harc
 have hsm : mayH x.p (ndsOf h) = true → (arcsL x.p (ndsOf h)).length ≤ 1048576 := fun hm => arcs_small16 _ _ (mayH_len hm)
 clear harc hal
 generalize great16 x.cls h = g at *
 generalize mayH x.p (ndsOf h) = r at *
 generalize arcsL x.p (ndsOf h) = l at *
 unfold Ctl.agg at HG HM HR HP ⊢
 obtain ⟨Z, hZ⟩ : ∃ Z, Z = x.arr := ⟨_, rfl⟩
 rw [← hZ] at HG HM HR HP ⊢
 rw [Ctl.arr_eq] at hZ
 obtain ⟨W0, hW0⟩ : ∃ W0, W0 = w.alloc (.cells Z 26) := ⟨_, rfl⟩
 have bZ : Bk W0 w.heap.size 26 Z := by rw [hW0]; exact Bk.made w _ _
 have HF0 : Hid (Fr No w W0) := Lib.hid (by rw [hW0]; exact (Fr.refl _ _).alloc _)
 have HL := Lib.hid (fun V (hV : Fr No W0 V) => show LdO V 26 ⟨w.heap.size, 0, none⟩ (.agg Z) from ld_cat hZ (bZ.fr hV (fun e => e)))
 have hwe := hW0.symm
 clear hZ hW0 bZ hx hs hN
 go_enter Tryz.func3, Tryz.ntmps3
 go_wp2_with fail
 refine (Hal.out _ HF0.out).mono ?_
 rintro e w1 ⟨rfl, f1⟩
 have D1 : Hid (Fr No W0 w1) := Lib.hid f1
 have HLw := Lib.hid (HL.out _ D1.out)
 clear f1 hwe Hal
 go_wp2_with (first
  | ((with_reducible refine wpl_ld ?_ ?_ HLw.out ?_); (· rfl); (· rfl); simp only [Act.put, szA, szB, szC]))
 refine (HG.out _ (HF0.out.trans' D1.out (fun _ _ e => e))).mono ?_
 rintro e w2 ⟨rfl, f2⟩
 have D2 := Lib.hid (D1.out.trans' f2 (fun _ _ e => e))
 clear f2 HLw HG
 cases g
 ·have HLw := Lib.hid (HL.out _ D2.out)
  go_wp2_with (first
   | ((with_reducible refine wpl_ld ?_ ?_ HLw.out ?_); (· rfl); (· rfl); simp only [Act.put, szA, szB, szC]))
  refine (HP.out (by first | rfl | trivial) _ (HF0.out.trans' D2.out (fun _ _ e => e))).mono ?_
  rintro e w3 ⟨L, lc, rfl, hL, f3⟩
  have D3 := Lib.hid (D2.out.trans' f3 (fun _ _ e => e))
  have HS := Lib.hid (fun V (hV : Fr No w3 V) => hL.since hV)
  clear f3 hL HLw HP
  have HLw := Lib.hid (HL.out _ D3.out)
  cases r
  ·have e0 : (if false = true then l else []).length = 0 := rfl
   rw [e0]
   clear e0 HS HR
   go_wp2_with (first
    | ((with_reducible refine wpl_ld ?_ ?_ HLw.out ?_); (· rfl); (· rfl); simp only [Act.put, szA, szB, szC]))
   refine (HM.out (by first | rfl | trivial) _ (HF0.out.trans' D3.out (fun _ _ e => e))).mono ?_
   rintro e w4 ⟨rfl, f4⟩
   have D4 := Lib.hid (D3.out.trans' f4 (fun _ _ e => e))
   clear f4
   go_wp2
   go_ret
   exact ⟨rfl, HF0.out.trans' D4.out (fun _ _ e => e)⟩
  ·have e0 : (if true = true then l else []) = l := rfl
   rw [e0] at HS ⊢
   have hsm2 := hsm rfl
   clear e0 hsm
   obtain ⟨m, hm⟩ : ∃ m, l.length = m := ⟨_, rfl⟩
   rw [hm] at hsm2 HR ⊢
   go_wp2_with (first
    | ((with_reducible refine wpl_ld ?_ ?_ HLw.out ?_); (· rfl); (· rfl); simp only [Act.put, szA, szB, szC]))
   refine (HM.out (by first | rfl | trivial) _ (HF0.out.trans' D3.out (fun _ _ e => e))).mono ?_
   rintro e w4 ⟨rfl, f4⟩
   have D4 := Lib.hid (D3.out.trans' f4 (fun _ _ e => e))
   have HS4 := Lib.hid (HS.out _ f4)
   clear f4 HS HLw HM
   have HLw := Lib.hid (HL.out _ D4.out)
   go_wp2_with (first
    | ((with_reducible refine wpl_ld ?_ ?_ HLw.out ?_); (· rfl); (· rfl); simp only [Act.put, szA, szB, szC]))
   refine (HR.out (by first | rfl | trivial) (by first | rfl | trivial) _ (HF0.out.trans' D4.out (fun _ _ e => e))).mono ?_
   rintro e w5 ⟨M, mc, rfl, hO, f5⟩
   have D5 := Lib.hid (HF0.out.trans' (D4.out.trans' f5 (fun _ _ e => e)) (fun _ _ e => e))
   have H1 := Lib.hid (fun (k : Nat) (hk : k < l.length) V (hV : Fr No w5 V) => ((HS4.out.since f5).since hV).arc hk)
   have H2 := Lib.hid (fun (k : Nat) (hk : k < l.length) V (hV : Fr No w5 V) => ((Sl.ofOwn hO).since hV).arc hk)
   clear f5 hO HS4 HR HLw HL D4 D3 D2 D1 HF0
   have Hm := Lib.hid hm
   clear hm
   go_wp2
   go_loopw [7] (fun iv wr => ∃ i : Nat, i ≤ m ∧ iv = .int .i64 (i : Int) ∧ Hid (Fr No w5 wr)) (fun iv _ => m - (intOf iv).toNat)
   case atStart => exact ⟨0, Nat.zero_le _, rfl, Lib.hid (Fr.refl _ _)⟩
   case round =>
    obtain ⟨i, hi, rfl, hfr⟩ := hrel
    by_cases hlt : i < m
    ·have hil : i < l.length := by rw [Hm.out]; exact hlt
     have hin2 : ((i : Nat) : Int) < (m : Int) := by omega
     obtain ⟨a1, rfl, hb1, c0, c1, c2⟩ := H1.out i hil wr hfr.out
     obtain ⟨a2, rfl, hb2, d0, d1, d2⟩ := H2.out i hil wr hfr.out
     generalize l[i].1 = u0 at *
     generalize l[i].2.1 = u1 at *
     generalize l[i].2.2 = u2 at *
     have ea := eqArc16 (u0 : Int) (u1 : Int) (u2 : Int)
     clear H1 H2
     go_wp2_with fail
     go_quiet (fail)
     go_wp2
     go_roundw
     case rel => exact ⟨i + 1, by omega, by go_num, Lib.hid (hfr.out.trans' ((Fr.refl No wr).drewN _) (fun _ _ e => e))⟩
     case measure => simp [intOf]; omega
    ·obtain rfl : i = m := by omega
     clear H1 H2
     go_wp2
     go_ret
     exact ⟨rfl, D5.out.trans' hfr.out (fun _ _ e => e)⟩
 ·go_wp2
  go_ret
  exact ⟨rfl, HF0.out.trans' D2.out (fun _ _ e => e)⟩
theorem lawArcs16 (hG : GoodC16) (x : Ctl) (h : List Ndl) (A : Option Addr) (n c : Nat) (w : World) (hx : Clss w x.cA x.cls) (hs : Nds w A h) (hn : h.length = n) (hnc : n ≤ c) (hnm : n ≤ 9223372036854775807) (hncl : x.cls.length ≤ 9223372036854775807) (hA : ArcsC16) : Calls Tryz.prog 3 #[x.agg, .slice A n c] w (Has w true) :=
 rsgArcs16_any x h A n c w hx hs hn hnm hncl (fun W _ => aliveG16 hG W) (fun hg W hW => hA x h A n c W ⟨hx.since hW, hs.since hW, hn, by have := (few_of_great16 hg).2.1; omega, hnc, (few_of_great16 hg).1, (few_of_great16 hg).2.2⟩)
end Go.Proofs.YtdjhdnejeehgnaaGreat
